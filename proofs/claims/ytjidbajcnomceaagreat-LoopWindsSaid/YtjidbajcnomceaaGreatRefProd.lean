/- Products of lists of units, as the document's answers make them.
Conditions: the list lies in memory as it is written at each theorem. -/
import Derived.Test.YtjidbajcnomceaaGreatProd
import Derived.Test.YtjidbajcnomceaaGreatMid
namespace Go.Proofs.YtjidbajcnomceaaGreat
set_option linter.unusedVariables false
set_option linter.unusedSimpArgs false
open Go.RowKit
open Um

set_option maxRecDepth 100000 in
set_option maxHeartbeats 1600000 in
theorem refProduct_any (b off cap : Nat) (L : List Q) (r : Q) (er : Int) (w : World) (hL : Lies w b off L) (hV : ∀ x ∈ L, V x) (hlen : L.length ≤ 1152921504606846976) (hr : prodFrom one L = (r, er)) :
    Calls Tryz.prog 101 #[.slice (some ⟨b, off, none⟩) L.length cap] w fun e w' => e = .returned (.tuple #[.agg #[.int .i64 r.a, .int .i64 r.b, .int .i64 r.c, .int .i64 r.d, .int .i64 r.n], .int .i64 er]) ∧ Below w.heap.size w w' := by
  have o1 := fun W : World => refOne_any W
  have HL := Lib.hid hL
  have HV := Lib.hid hV
  have HR := Lib.hid hr
  clear hL hV hr
  go_enter Tryz.func101, Tryz.ntmps101
  go_wp2
  have bR0 : UBox (w.alloc (.cells #[.int .i64 0, .int .i64 0, .int .i64 0, .int .i64 0, .int .i64 0] 62)) w.heap.size zero := ⟨by simp [go_sem, zero], by simp [go_sem, zero], by simp [go_sem, zero], by simp [go_sem, zero], by simp [go_sem, zero], fun j => by simp [go_sem], by simp⟩
  have hw0 : Below w.heap.size w (w.alloc (.cells #[.int .i64 0, .int .i64 0, .int .i64 0, .int .i64 0, .int .i64 0] 62)) := (Below.refl _ _).alloc (Nat.le_refl _) _
  go_loopw [4, 5] (fun q _ wr => ∃ k : Nat, k ≤ L.length ∧ q = .int .i64 k ∧ UBox wr w.heap.size zero ∧ Below w.heap.size w wr) (fun q _ _ => L.length - (intOf q).toNat)
  case atStart => exact ⟨0, by omega, rfl, bR0, hw0⟩
  case round =>
    obtain ⟨k, hk, rfl, br1, hb⟩ := hrel
    clear bR0 hw0
    have hbw := hb
    have hbs := hb.size
    by_cases hlt : k < L.length
    · have hx : L[k]? = some L[k] := List.getElem?_eq_getElem hlt
      have hvx : V L[k] := HV.out _ (List.getElem_mem hlt)
      obtain ⟨l0, l1, l2, l3, l4⟩ := HL.out.later hbw k _ hx
      clear hx
      generalize L[k] = x at *
      have c1 := fun W : World => refValidate_any x W 0 (.inl ⟨hvx, rfl⟩)
      have HB := Lib.hid br1
      clear br1 hvx
      go_wp2_with ((with_reducible refine (c1 _).mono ?_); rintro e w1 ⟨rfl, hw1⟩)
      exact ⟨⟨k + 1, by omega, by go_num, HB.out.later hw1, by repeat (first | (with_reducible exact Below.refl _ _) | (with_reducible refine Below.setCell ?_ ?_ _) | (with_reducible refine Below.drew ?_) | (with_reducible refine Below.alloc ?_ ?_ _) | (with_reducible refine Below.trans ?_ (Below.mono hw1 ?_)) | (with_reducible refine Below.trans ?_ (Below.mono hb ?_)) | (with_reducible exact hw1.size) | (with_reducible exact hb.size) | omega | (simp <;> omega) | (simp <;> (have s := hw1.size; omega)) | (simp <;> (have s := hb.size; omega)) | (have s0 := hw1.size; (try simp at s0); have s1 := hb.size; (try simp at s1); (try simp); omega))⟩, by simp [intOf]; omega⟩
    · obtain rfl : k = L.length := by omega
      go_wp2_with ((with_reducible refine (o1 _).mono ?_); rintro e w1 ⟨rfl, hw1⟩)
      have br2 := br1.later hw1
      have hb2 : Below w.heap.size w w1 := by repeat (first | (with_reducible exact Below.refl _ _) | (with_reducible refine Below.setCell ?_ ?_ _) | (with_reducible refine Below.drew ?_) | (with_reducible refine Below.alloc ?_ ?_ _) | (with_reducible refine Below.trans ?_ (Below.mono hw1 ?_)) | (with_reducible refine Below.trans ?_ (Below.mono hb ?_)) | (with_reducible exact hw1.size) | (with_reducible exact hb.size) | omega | (simp <;> omega) | (simp <;> (have s := hw1.size; omega)) | (simp <;> (have s := hb.size; omega)) | (have s0 := hw1.size; (try simp at s0); have s1 := hb.size; (try simp at s1); (try simp); omega))
      have bP : UBox (w1.alloc (.cells #[.int .i64 one.a, .int .i64 one.b, .int .i64 one.c, .int .i64 one.d, .int .i64 one.n] 62)) w1.heap.size one := ⟨by simp [go_sem], by simp [go_sem], by simp [go_sem], by simp [go_sem], by simp [go_sem], fun j => by simp [go_sem], by simp⟩
      have bR' : UBox (w1.alloc (.cells #[.int .i64 one.a, .int .i64 one.b, .int .i64 one.c, .int .i64 one.d, .int .i64 one.n] 62)) w.heap.size zero := br2.later ((Below.refl _ _).alloc (Nat.le_refl _) _)
      have hwa : Below w.heap.size w (w1.alloc (.cells #[.int .i64 one.a, .int .i64 one.b, .int .i64 one.c, .int .i64 one.d, .int .i64 one.n] 62)) := hb2.alloc hb2.size _
      have hPne : w.heap.size < w1.heap.size := br2.lt
      clear br1 br2 hb hbw hbs hw1 hb2
      generalize hbP : w1.heap.size = bp at *
      clear hbP
      go_outline
      go_loopw [7, 8, 9] (fun q _ _ wr => ∃ (k : Nat) (p : Q), k ≤ L.length ∧ q = .int .i64 k ∧ V p ∧ Hid (prodFrom one (L.take k) = (p, 0)) ∧ UBox wr bp p ∧ UBox wr w.heap.size zero ∧ Below w.heap.size w wr) (fun q _ _ _ => L.length - (intOf q).toNat)
      case atStart => exact ⟨0, one, by omega, rfl, V.one, Lib.hid rfl, bP, bR', hwa⟩
      case round =>
        obtain ⟨k, p, hk, rfl, hp, hpr, bp1, br1, hb⟩ := hrel
        have hbw := hb
        have hbs := hb.size
        by_cases hlt : k < L.length
        · have hx : L[k]? = some L[k] := List.getElem?_eq_getElem hlt
          have hvx : V L[k] := HV.out _ (List.getElem_mem hlt)
          have hgood := fun h => prod_step hlt hpr.out h
          have hlarge := fun h => prod_large hlt hpr.out h
          obtain ⟨l0, l1, l2, l3, l4⟩ := HL.out.later hbw k _ hx
          have lb : b < wr.heap.size := World.block_lt_of_cell? wr _ l0
          clear hx
          generalize L[k] = x at *
          have HG := Lib.hid hgood
          have HLG := Lib.hid hlarge
          clear hgood hlarge hpr
          have c2 := fun W : World => raw_any p x W (V.small2 hp hvx)
          have hi := V.mul_in hp hvx
          have hu := mul_len p x hp.u hvx.u
          have HA := Lib.hid bp1
          have HRA := Lib.hid br1
          obtain ⟨p0, p1, p2, p3, p4, pf, pl⟩ := bp1
          clear br1
          by_cases hl : (low (mul p x)).n ≤ 1048576
          · have c3 := fun W : World => lowest_ok (mul p x) W hi hl
            have hvl : V (low (mul p x)) := V.of_low hu hl
            have hnext := HG.out hl
            generalize low (mul p x) = y at *
            have HN := Lib.hid hnext
            clear hnext hi hu hl hvx
            go_wp2
            apply Mid.region_mids 9 [.inr (.int .i64 0), .inl (.cells #[.int .i64 0, .int .i64 0, .int .i64 0, .int .i64 0, .int .i64 0] 62)] [] (by kernel_rfl) (by kernel_rfl) (by simp) (by simp [Mid.lates]) (by kernel_rfl) (by kernel_rfl) (fun c a d v w h => by cases d <;> exact h)
            · intro B hB
              have kc := @Tail.cell_re
              have hcB := Tail.cells hB
              have zB0 := Nat.lt_of_lt_of_le pl hB.size
              have zB1 := Nat.lt_of_lt_of_le lb hB.size
              simp only [List.take_succ_cons, List.take_zero]
              repeat (go_big_quiet_step (first | (with_reducible exact Calls.regrown_of (c2 _)) | (with_reducible exact Calls.regrown_of (c3 _))))
              exact wpQuiet_nil rfl
            · intro w1 hw1
              refine ⟨_, rfl, .inl ⟨rfl, fun W => by simp [go_sem]⟩, _, rfl, fun a W => ⟨rfl, by simp [go_sem]⟩, fun c w3 _ hcb hw3' hx3 => ?_⟩
              have hw3 : Below wr.heap.size wr w3 := hw1.trans (hw3'.mono hw1.size)
              clear hw1 hw3'
              show wpList _ _ _ (List.drop 11 _) _ _
              simp only [List.drop_succ_cons, List.drop_zero]
              have k0 := Wide.cell_at hx3 0 _ rfl
              have k1 := Wide.cell_at hx3 1 _ rfl
              have k2 := Wide.cell_at hx3 2 _ rfl
              have k3 := Wide.cell_at hx3 3 _ rfl
              have k4 := Wide.cell_at hx3 4 _ rfl
              have f := Wide.free_at hx3
              have zc : c < w3.heap.size := World.block_lt_of_cell? w3 _ k0
              obtain ⟨b0, b1, b2, b3, b4, bf, bl⟩ := HA.out.later hw3
              obtain ⟨d0, d1, d2, d3, d4, df, dl⟩ := HRA.out.later hw3
              clear hx3
              have hnc : ¬ c = bp := by omega
              have hnc' : ¬ bp = c := by omega
              go_wp2
              refine ⟨⟨k + 1, y, by omega, by go_num, hvl, HN, ?_, ?_, by repeat (first | (with_reducible exact Below.refl _ _) | (with_reducible refine Below.setCell ?_ ?_ _) | (with_reducible refine Below.drew ?_) | (with_reducible refine Below.alloc ?_ ?_ _) | (with_reducible refine Below.trans ?_ (Below.mono hw3 ?_)) | (with_reducible refine Below.trans ?_ (Below.mono hb ?_)) | (with_reducible exact hw3.size) | (with_reducible exact hb.size) | omega | (simp <;> omega) | (simp <;> (have s := hw3.size; omega)) | (simp <;> (have s := hb.size; omega)) | (have s0 := hw3.size; (try simp at s0); have s1 := hb.size; (try simp at s1); (try simp); omega))⟩, by simp [intOf]; omega⟩
              · exact ⟨by simp [go_sem, b0, b1, b2, b3, b4], by simp [go_sem, b0, b1, b2, b3, b4], by simp [go_sem, b0, b1, b2, b3, b4], by simp [go_sem, b0, b1, b2, b3, b4], by simp [go_sem, b0, b1, b2, b3, b4], fun j => by simp [bf], by simp [World.setCell]; exact bl⟩
              · have hne : ¬ w.heap.size = bp := by omega
                have hne' : ¬ bp = w.heap.size := by omega
                have hne2 : ¬ w.heap.size = c := by omega
                have hne3 : ¬ c = w.heap.size := by omega
                exact ⟨by simp [go_sem, d0, hne, hne', hne2, hne3], by simp [go_sem, d1, hne, hne', hne2, hne3], by simp [go_sem, d2, hne, hne', hne2, hne3], by simp [go_sem, d3, hne, hne', hne2, hne3], by simp [go_sem, d4, hne, hne', hne2, hne3], fun j => by simp [df], by simp [World.setCell]; exact dl⟩
          · have hl' : 1048576 < (low (mul p x)).n := by omega
            have c3 := fun W : World => lowest_large (mul p x) W hi hl'
            have hfin := HR.out.symm.trans (HLG.out hl')
            simp only [Prod.mk.injEq] at hfin
            obtain ⟨rfl, rfl⟩ := hfin
            clear hi hu hl hl' hvx
            go_wp2
            apply Mid.region_mids 9 [.inr (.int .i64 3), .inl (.cells #[.int .i64 0, .int .i64 0, .int .i64 0, .int .i64 0, .int .i64 0] 62)] [] (by kernel_rfl) (by kernel_rfl) (by simp) (by simp [Mid.lates]) (by kernel_rfl) (by kernel_rfl) (fun c a d v w h => by cases d <;> exact h)
            · intro B hB
              have kc := @Tail.cell_re
              have hcB := Tail.cells hB
              have zB0 := Nat.lt_of_lt_of_le pl hB.size
              have zB1 := Nat.lt_of_lt_of_le lb hB.size
              simp only [List.take_succ_cons, List.take_zero]
              repeat (go_big_quiet_step (first | (with_reducible exact Calls.regrown_of (c2 _)) | (with_reducible exact Calls.regrown_of (c3 _))))
              exact wpQuiet_nil rfl
            · intro w1 hw1
              refine ⟨_, rfl, .inl ⟨rfl, fun W => by simp [go_sem]⟩, _, rfl, fun a W => ⟨rfl, by simp [go_sem]⟩, fun c w3 _ hcb hw3' hx3 => ?_⟩
              have hw3 : Below wr.heap.size wr w3 := hw1.trans (hw3'.mono hw1.size)
              clear hw1 hw3'
              show wpList _ _ _ (List.drop 11 _) _ _
              simp only [List.drop_succ_cons, List.drop_zero]
              have k0 := Wide.cell_at hx3 0 _ rfl
              have k1 := Wide.cell_at hx3 1 _ rfl
              have k2 := Wide.cell_at hx3 2 _ rfl
              have k3 := Wide.cell_at hx3 3 _ rfl
              have k4 := Wide.cell_at hx3 4 _ rfl
              have f := Wide.free_at hx3
              have zc : c < w3.heap.size := World.block_lt_of_cell? w3 _ k0
              obtain ⟨d0, d1, d2, d3, d4, df, dl⟩ := HRA.out.later hw3
              clear hx3
              have hne2 : ¬ w.heap.size = c := by omega
              have hne3 : ¬ c = w.heap.size := by omega
              go_wp2
              refine bodyPost_ret (v := .tuple #[.agg #[.int .i64 zero.a, .int .i64 zero.b, .int .i64 zero.c, .int .i64 zero.d, .int .i64 zero.n], .int .i64 3]) ?_ rfl ⟨rfl, ?_⟩
              · simp [results, Tryz.results101, go_sem, d0, d1, d2, d3, d4, zero, hne2, hne3]
              · repeat (first | (with_reducible exact Below.refl _ _) | (with_reducible refine Below.setCell ?_ ?_ _) | (with_reducible refine Below.drew ?_) | (with_reducible refine Below.alloc ?_ ?_ _) | (with_reducible refine Below.trans ?_ (Below.mono hw3 ?_)) | (with_reducible refine Below.trans ?_ (Below.mono hb ?_)) | (with_reducible exact hw3.size) | (with_reducible exact hb.size) | omega | (simp <;> omega) | (simp <;> (have s := hw3.size; omega)) | (simp <;> (have s := hb.size; omega)) | (have s0 := hw3.size; (try simp at s0); have s1 := hb.size; (try simp at s1); (try simp); omega))
        · obtain rfl : k = L.length := by omega
          have hfin := HR.out.symm.trans (show prodFrom one L = (p, 0) by have := hpr.out; rwa [List.take_length] at this)
          simp only [Prod.mk.injEq] at hfin
          obtain ⟨rfl, rfl⟩ := hfin
          obtain ⟨b0, b1, b2, b3, b4, bf, bl⟩ := bp1
          obtain ⟨d0, d1, d2, d3, d4, df, dl⟩ := br1
          have hne : ¬ w.heap.size = bp := by omega
          have hne' : ¬ bp = w.heap.size := by omega
          clear hpr
          go_wp2
          refine bodyPost_ret (v := .tuple #[.agg #[.int .i64 r.a, .int .i64 r.b, .int .i64 r.c, .int .i64 r.d, .int .i64 r.n], .int .i64 0]) ?_ rfl ⟨rfl, ?_⟩
          · simp [results, Tryz.results101, go_sem, d0, d1, d2, d3, d4, b0, b1, b2, b3, b4, hne, hne']
          · repeat (first | (with_reducible exact Below.refl _ _) | (with_reducible refine Below.setCell ?_ ?_ _) | (with_reducible refine Below.drew ?_) | (with_reducible refine Below.alloc ?_ ?_ _) | (with_reducible refine Below.trans ?_ (Below.mono hb ?_)) | (with_reducible exact hb.size) | omega | (simp <;> omega) | (simp <;> (have s := hb.size; omega)) | (have s0 := hb.size; (try simp at s0); (try simp); omega))
end Go.Proofs.YtjidbajcnomceaaGreat
