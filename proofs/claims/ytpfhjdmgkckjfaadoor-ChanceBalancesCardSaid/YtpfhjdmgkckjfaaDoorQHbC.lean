/- HeatBath of the program: the field with the value that a draw leads to.
Conditions: those written at each theorem. -/
import Derived.Test.YtpfhjdmgkckjfaaDoorQRatC5
import Derived.Test.YtpfhjdmgkckjfaaDoorQCpdC
namespace Go.Proofs.YtpfhjdmgkckjfaaDoor
set_option linter.unusedVariables false
set_option linter.unusedSimpArgs false
set_option maxRecDepth 1000000
open Go.RowKit
open Um Tm Cm

theorem wpList_load_row_g {P : Program} {ops : Array Oper} {rest : List Oper} {o : Oper} {a : Act} {w : World} {Q : Exit → Act → World → Prop} (hw : Region.wanted o (yielded ops a.tmps) = true) (ty : TypeId) (x : Operand) (ho : o.op = .load ty x)
    (g : Nat) (hx : a.eval x = .pointer (some ⟨g, 0, none⟩)) (t : TypeId) (cs : Array Value) (fr : Nat × Nat) (d : TypeDesc) (hg : w.heap[g]? = some (.cells cs t fr))
    (hu : P.underlying ty = some d) (hd : (match d with | .struct _ | .array _ _ => true | _ => false) = true) (hi : (P.info? ty).map (·.size) = some cs.size)
    (h : wpList P ops Q rest (a.put o.dst (.agg cs)) w) : wpList P ops Q (o :: rest) a w := by
  simp only [wpList, hw, if_true]
  exact .inl (wp_load_row ty x ho g hx t cs fr d hg hu hd hi h)
set_option maxHeartbeats 6400000 in
theorem heat_big (a b c p0 p1 p2 p3 p4 l d s : Int) (ao : Option Addr) (cap : Nat) (L : List Q) (w : World) (A : Array Value) (hA : R24 A)
    (hm : LiesO w ao L) (hst : StA w) (hd0 : ¬ d < 0) (hd : d ≥ s)
    (c1 : ∀ (W : World) (_ : LiesO W ao L) (_ : StA W), Calls Tryd.prog 8 #[.agg #[.int .i64 a, .int .i64 b, .int .i64 c, .slice ao L.length cap], .agg #[.int .i64 p0, .int .i64 p1, .int .i64 p2, .int .i64 p3, .int .i64 p4], .int .i64 l] W fun e w' => e = .returned (.tuple #[.agg A, .int .i64 0]) ∧ Below W.heap.size W w')
    (cS : ∀ (W : World), Calls Tryd.prog 23 #[.agg A] W fun e w' => e = .returned (.int .i64 s) ∧ Below W.heap.size W w') : Calls Tryd.prog 10 #[.agg #[.int .i64 a, .int .i64 b, .int .i64 c, .slice ao L.length cap], .agg #[.int .i64 p0, .int .i64 p1, .int .i64 p2, .int .i64 p3, .int .i64 p4], .int .i64 l, .int .i64 d] w fun e w' => e = .returned (.tuple #[.agg #[.int .i64 0, .int .i64 0, .int .i64 0, .slice none 0 0], .int .i64 0, .int .i64 1]) ∧ Below w.heap.size w w' := by
  have H0 := Lib.hid hm
  have S0 := Lib.hid hst
  have SZ := Lib.hid hA.sz
  have OL := Lib.hid hA.ol
  have ON := Lib.hid hA.one
  clear hm hst hA
  go_enter Tryd.func10, Tryd.ntmps10
  go_wp2_with (fail)
  refine (c1 _ (H0.out.later ba3) (S0.out.later ba3)).mono ?_
  rintro e w1 ⟨rfl, hw1⟩
  have bw1 : Below w.heap.size w w1 := bel3 hw1
  have F1 := Lib.hid (FW.n3a.later hw1)
  have E1 := Lib.hid (C5.n3b.later hw1)
  have Z1 := Lib.hid (FW.n3c.later hw1)
  have H1 := Lib.hid (H0.out.later bw1)
  have S1 := Lib.hid (S0.out.later bw1)
  have HB1 := Lib.hid bw1
  clear hw1 bw1 H0 S0
  clear H1
  clear S1
  clear F1
  clear E1
  have TZ := Lib.hid (ABx.news (w := w1) (T := 31) #[.int .i64 0, .int .i64 0, .int .i64 0, .int .i64 0, .int .i64 0, .int .i64 0, .int .i64 0, .int .i64 0, .int .i64 0, .int .i64 0, .int .i64 0, .int .i64 0, .int .i64 0, .int .i64 0, .int .i64 0, .int .i64 0, .int .i64 0, .int .i64 0, .int .i64 0, .int .i64 0, .int .i64 0, .int .i64 0, .int .i64 0, .int .i64 0])
  have nx := r24_below w1 A
  have Z2 := Lib.hid (Z1.out.later nx)
  have HB2 := Lib.hid (HB1.out.trans (nx.mono HB1.out.size))
  have A2 : Hid (RowT _ _ _ _) := Lib.hid ⟨r24_new w1 A⟩
  clear nx HB1 Z1
  go_wp2_with (first | (refine wpList_store_row rfl 31 (.tmp 11) (.tmp 20) rfl w1.heap.size A rfl rfl 31 _ TZ.out.h SZ.out OL.out ON.out ?_) | (refine wpList_load_row_g (by first | rfl | (simp [Region.wanted, yielded]; done) | go_simp) 31 (.tmp 11) rfl w1.heap.size rfl 31 A (0, 0) _ A2.out.h Tryd.underlying31 rfl SZ.out ?_))
  generalize (w1.alloc (.cells #[.int .i64 0, .int .i64 0, .int .i64 0, .int .i64 0, .int .i64 0, .int .i64 0, .int .i64 0, .int .i64 0, .int .i64 0, .int .i64 0, .int .i64 0, .int .i64 0, .int .i64 0, .int .i64 0, .int .i64 0, .int .i64 0, .int .i64 0, .int .i64 0, .int .i64 0, .int .i64 0, .int .i64 0, .int .i64 0, .int .i64 0, .int .i64 0] 31)).setRow w1.heap.size A = w2 at *
  refine (cS _).mono ?_
  rintro e w3 ⟨rfl, hw3⟩
  have bw3 : Below w2.heap.size w2 w3 := hw3
  have Z3 := Lib.hid (Z2.out.later bw3)
  have A3 := Lib.hid (A2.out.later bw3)
  have HB3 := Lib.hid (HB2.out.trans (bw3.mono HB2.out.size))
  clear hw3 bw3 Z2 A2 HB2
  obtain ⟨z3_0, z3_1, z3_2, z3_3, z3_4, z3_5⟩ := Z3.out
  go_wp2
  refine bodyPost_ret (v := .tuple #[.agg #[.int .i64 0, .int .i64 0, .int .i64 0, .slice none 0 0], .int .i64 0, .int .i64 1]) ?_ rfl ⟨rfl, ?_⟩
  · simp [results, Tryd.results10, go_sem, z3_0, z3_1, z3_2, z3_3, z3_5]
  · have hb := HB3.out
    repeat (first | (with_reducible exact Below.refl _ _) | (with_reducible refine Below.setCell ?_ ?_ _) | (with_reducible refine Below.drew ?_) | (with_reducible refine Below.alloc ?_ ?_ _) | (with_reducible refine Below.trans ?_ (Below.mono hb ?_)) | (with_reducible exact hb.size) | omega | (simp <;> omega) | (simp <;> (have s := hb.size; omega)) | (have s0 := hb.size; (try simp at s0); (try simp); omega))
set_option maxHeartbeats 6400000 in
theorem heat_ok (a b c p0 p1 p2 p3 p4 l d s : Int) (bl off cap n k : Nat) (L : List Q) (w : World) (A : Array Value) (hA : R24 A)
    (hm : Lies w bl off L) (hst : StA w) (hl : l = n) (hn : n < L.length) (hlen : L.length ≤ 100) (hd0 : ¬ d < 0) (hd : ¬ d ≥ s) (hk : k < 24)
    (c1 : ∀ (W : World) (_ : Lies W bl off L) (_ : StA W), Calls Tryd.prog 8 #[.agg #[.int .i64 a, .int .i64 b, .int .i64 c, .slice (some ⟨bl, off, none⟩) L.length cap], .agg #[.int .i64 p0, .int .i64 p1, .int .i64 p2, .int .i64 p3, .int .i64 p4], .int .i64 l] W fun e w' => e = .returned (.tuple #[.agg A, .int .i64 0]) ∧ Below W.heap.size W w')
    (cS : ∀ (W : World), Calls Tryd.prog 23 #[.agg A] W fun e w' => e = .returned (.int .i64 s) ∧ Below W.heap.size W w')
    (cK : ∀ (W : World), Calls Tryd.prog 25 #[.agg A, .int .i64 d] W fun e w' => e = .returned (.int .i64 k) ∧ Below W.heap.size W w') : Calls Tryd.prog 10 #[.agg #[.int .i64 a, .int .i64 b, .int .i64 c, .slice (some ⟨bl, off, none⟩) L.length cap], .agg #[.int .i64 p0, .int .i64 p1, .int .i64 p2, .int .i64 p3, .int .i64 p4], .int .i64 l, .int .i64 d] w fun e w' => (∃ g gk : Nat, e = .returned (.tuple #[.agg #[.int .i64 a, .int .i64 b, .int .i64 c, .slice (some ⟨g, 0, none⟩) L.length gk], .int .i64 k, .int .i64 0]) ∧ LBox w' g (L.set n (small (k : Int))) ∧ w.heap.size ≤ g) ∧ Below w.heap.size w w' := by
  have H0 := Lib.hid hm
  have S0 := Lib.hid hst
  have SZ := Lib.hid hA.sz
  have OL := Lib.hid hA.ol
  have ON := Lib.hid hA.one
  have cC := fun (W : World) (k : Lies W bl off L) => copied5_any a b c bl off cap L W k (by omega) hlen
  have cM := fun (W : World) => small_any k W (by omega) (by omega)
  have hx : L[n]? = some L[n] := List.getElem?_eq_getElem hn
  have HX := Lib.hid hx
  clear hm hst hA
  subst hl
  have i1 : (n : Int) < (L.length : Int) := by omega
  clear hx
  generalize L[n] = x at *
  generalize small (k : Int) = u at *
  go_enter Tryd.func10, Tryd.ntmps10
  go_wp2_with (fail)
  refine (c1 _ (H0.out.later ba3) (S0.out.later ba3)).mono ?_
  rintro e w1 ⟨rfl, hw1⟩
  have bw1 : Below w.heap.size w w1 := bel3 hw1
  have F1 := Lib.hid (FW.n3a.later hw1)
  have E1 := Lib.hid (C5.n3b.later hw1)
  have Z1 := Lib.hid (FW.n3c.later hw1)
  have H1 := Lib.hid (H0.out.later bw1)
  have S1 := Lib.hid (S0.out.later bw1)
  have HB1 := Lib.hid bw1
  clear hw1 bw1 H0 S0
  clear S1
  clear E1
  have TZ := Lib.hid (ABx.news (w := w1) (T := 31) #[.int .i64 0, .int .i64 0, .int .i64 0, .int .i64 0, .int .i64 0, .int .i64 0, .int .i64 0, .int .i64 0, .int .i64 0, .int .i64 0, .int .i64 0, .int .i64 0, .int .i64 0, .int .i64 0, .int .i64 0, .int .i64 0, .int .i64 0, .int .i64 0, .int .i64 0, .int .i64 0, .int .i64 0, .int .i64 0, .int .i64 0, .int .i64 0])
  have nx := r24_below w1 A
  have H2 := Lib.hid (H1.out.later nx)
  have F2 := Lib.hid (F1.out.later nx)
  have Z2 := Lib.hid (Z1.out.later nx)
  have HB2 := Lib.hid (HB1.out.trans (nx.mono HB1.out.size))
  have A2 : Hid (RowT _ _ _ _) := Lib.hid ⟨r24_new w1 A⟩
  clear nx HB1 H1 F1 Z1
  go_wp2_with (first | (refine wpList_store_row rfl 31 (.tmp 11) (.tmp 20) rfl w1.heap.size A rfl rfl 31 _ TZ.out.h SZ.out OL.out ON.out ?_) | (refine wpList_load_row_g (by first | rfl | (simp [Region.wanted, yielded]; done) | go_simp) 31 (.tmp 11) rfl w1.heap.size rfl 31 A (0, 0) _ A2.out.h Tryd.underlying31 rfl SZ.out ?_))
  generalize (w1.alloc (.cells #[.int .i64 0, .int .i64 0, .int .i64 0, .int .i64 0, .int .i64 0, .int .i64 0, .int .i64 0, .int .i64 0, .int .i64 0, .int .i64 0, .int .i64 0, .int .i64 0, .int .i64 0, .int .i64 0, .int .i64 0, .int .i64 0, .int .i64 0, .int .i64 0, .int .i64 0, .int .i64 0, .int .i64 0, .int .i64 0, .int .i64 0, .int .i64 0] 31)).setRow w1.heap.size A = w2 at *
  refine (cS _).mono ?_
  rintro e w3 ⟨rfl, hw3⟩
  have bw3 : Below w2.heap.size w2 w3 := hw3
  have H3 := Lib.hid (H2.out.later bw3)
  have F3 := Lib.hid (F2.out.later bw3)
  have Z3 := Lib.hid (Z2.out.later bw3)
  have A3 := Lib.hid (A2.out.later bw3)
  have HB3 := Lib.hid (HB2.out.trans (bw3.mono HB2.out.size))
  clear hw3 bw3 H2 F2 Z2 A2 HB2
  obtain ⟨f3_0, f3_1, f3_2, f3_3, f3_4, f3_5⟩ := F3.out
  go_wp2_with (fail)
  refine (cC _ (H3.out)).mono ?_
  rintro e w4 ⟨⟨g, gk, rfl, hG, hge⟩, hw4⟩
  have hgz := Z3.out.lt
  have hgg : w.heap.size + 1 + 1 < g := Nat.lt_of_lt_of_le hgz hge
  have hgo0 := hG.lt
  clear hgz hge
  clear f3_0 f3_1 f3_2 f3_3 f3_4 f3_5
  have bw4 : Below w3.heap.size w3 w4 := hw4
  have H4 := Lib.hid (H3.out.later bw4)
  have F4 := Lib.hid (F3.out.later bw4)
  have Z4 := Lib.hid (Z3.out.later bw4)
  have A4 := Lib.hid (A3.out.later bw4)
  have HB4 := Lib.hid (HB3.out.trans (bw4.mono HB3.out.size))
  have G4 := Lib.hid hG
  clear hG
  clear hw4 bw4 H3 F3 Z3 A3 HB3
  clear H4
  clear F4
  go_wp2_with ((refine wpList_load_row rfl 31 (.tmp 11) rfl _ rfl 31 A (0, 0) _ (A4.out.later ba1).h Tryd.underlying31 rfl SZ.out ?_))
  refine (cK _).mono ?_
  rintro e w5 ⟨rfl, hw5⟩
  have bw5 : Below w4.heap.size w4 w5 := bel1 hw5
  have O5 := Lib.hid (FW.n1.later hw5)
  have Z5 := Lib.hid (Z4.out.later bw5)
  have A5 := Lib.hid (A4.out.later bw5)
  have G5 := Lib.hid (G4.out.later bw5)
  have HB5 := Lib.hid (HB4.out.trans (bw5.mono HB4.out.size))
  clear hw5 bw5 Z4 A4 G4 HB4
  clear A5
  obtain ⟨o0, o1, o2, o3, of, ol⟩ := O5.out
  have K5 : Hid (∀ w' : World, Below w5.heap.size w5 w' → w'.cell? ⟨w4.heap.size, 3, none⟩ = some (.slice (some ⟨g, 0, none⟩) L.length gk)) := Lib.hid (fun w' h => held_belowG h o3)
  have hgo : g ≠ w4.heap.size := by have h1 := hgo0; omega
  have K6 : Hid (∀ (w' : World) (v0 v1 v2 v3 v4 : Value), Below w5.heap.size w5 w' → (((((w'.setCell ⟨g, n * 5, none⟩ v0).setCell ⟨g, n * 5 + 1, none⟩ v1).setCell ⟨g, n * 5 + 2, none⟩ v2).setCell ⟨g, n * 5 + 3, none⟩ v3).setCell ⟨g, n * 5 + 4, none⟩ v4).cell? ⟨w4.heap.size, 3, none⟩ = some (.slice (some ⟨g, 0, none⟩) L.length gk)) := Lib.hid (fun w' v0 v1 v2 v3 v4 h => (grown_setCells g [v0, v1, v2, v3, v4] (n * 5) w').cell (held_belowG h o3) (fun e => hgo (Option.some.inj e).symm))
  go_wp2_with (fail)
  go_region_held3 (fun w' => w'.cell? ⟨w4.heap.size, 3, none⟩ = some (.slice (some ⟨g, 0, none⟩) L.length gk))
    (first | (with_reducible exact K6.out _ _ _ _ _ _ B5) | (with_reducible exact K5.out _ B5) | (with_reducible exact K5.out _ (Below.refl _ _)) | go_keep)
    (first | ((with_reducible refine (cM _).mono ?_); rintro e z5 ⟨rfl, hw5⟩; have B5 : Below w5.heap.size w5 z5 := belDG hw5; obtain ⟨g0, g1, g2, g3, g4⟩ := (G5.out.later B5).at HX.out; have gf := (G5.out.later B5).free; have gl := (G5.out.later B5).lt))
  have e5 : z5.setCells g (n * 5) (uc u) = ((((z5.setCell ⟨g, n * 5, none⟩ (.int .i64 u.a)).setCell ⟨g, n * 5 + 1, none⟩ (.int .i64 u.b)).setCell ⟨g, n * 5 + 2, none⟩ (.int .i64 u.c)).setCell ⟨g, n * 5 + 3, none⟩ (.int .i64 u.d)).setCell ⟨g, n * 5 + 4, none⟩ (.int .i64 u.n) := rfl
  have GG := grown_setCells g (uc u) (n * 5) z5
  have LY := Lib.hid ((G5.out.later B5).put n hn u)
  have OY := Lib.hid ((O5.out.later B5).grown GG (fun e => hgo (Option.some.inj e).symm))
  have ZY := Lib.hid ((Z5.out.later B5).grown GG (by simp; omega))
  have b5 := HB5.out.trans (B5.mono HB5.out.size)
  have BY := Lib.hid (b5.grown GG b5.size (fun j hj => by cases hj; omega))
  clear GG b5 B5 hw5 K5 K6 o0 o1 o2 o3 of ol g0 g1 g2 g3 g4 gf gl O5 Z5 G5 HB5
  rw [e5] at LY OY ZY BY
  clear e5
  generalize ((((z5.setCell ⟨g, n * 5, none⟩ (.int .i64 u.a)).setCell ⟨g, n * 5 + 1, none⟩ (.int .i64 u.b)).setCell ⟨g, n * 5 + 2, none⟩ (.int .i64 u.c)).setCell ⟨g, n * 5 + 3, none⟩ (.int .i64 u.d)).setCell ⟨g, n * 5 + 4, none⟩ (.int .i64 u.n) = Y at *
  obtain ⟨o0, o1, o2, o3, of, ol⟩ := OY.out
  obtain ⟨z0, z1, z2, z3, zf, zl⟩ := ZY.out
  go_wp2
  have GZ := grown_setCells (w.heap.size + 1 + 1) [.int .i64 a, .int .i64 b, .int .i64 c, .slice (some ⟨g, 0, none⟩) L.length gk] 0 Y
  have hb := BY.out
  refine bodyPost_ret (v := .tuple #[.agg #[.int .i64 a, .int .i64 b, .int .i64 c, .slice (some ⟨g, 0, none⟩) L.length gk], .int .i64 k, .int .i64 0]) ?_ rfl ⟨⟨g, gk, rfl, LY.out.grown GZ (by simp; omega), by omega⟩, hb.grown GZ hb.size (fun j hj => by cases hj; omega)⟩
  simp [results, Tryd.results10, go_sem, z0, z1, z2, z3, zl]
end Go.Proofs.YtpfhjdmgkckjfaaDoor
