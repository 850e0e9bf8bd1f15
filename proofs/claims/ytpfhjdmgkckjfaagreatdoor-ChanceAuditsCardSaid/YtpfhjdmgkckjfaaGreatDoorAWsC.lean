/- The weights of all values of a link, as the program makes them out of its table.
Conditions: those written at each theorem. -/
import Derived.Test.YtpfhjdmgkckjfaaGreatDoorATabC
namespace Go.Proofs.YtpfhjdmgkckjfaaGreatDoor
set_option linter.unusedVariables false
set_option linter.unusedSimpArgs false
set_option maxRecDepth 1000000
open Go.RowKit
open Um Tm Cm

theorem rc_extract (R : List (Q × Value)) (k : Nat) (x : Q × Value) (hx : R[k]? = some x) : (R.flatMap rc).toArray.extract (k * 6) (k * 6 + 6) = (rc x).toArray := by
  have hk := (List.getElem?_eq_some_iff.1 hx).1
  apply Array.toList_inj.1
  rw [Array.toList_extract, List.extract_eq_take_drop]
  apply List.ext_getElem?
  intro j
  have hs : k * 6 + 6 - k * 6 = 6 := by omega
  rw [hs]
  by_cases hj : j < 6
  · rw [List.getElem?_take, if_pos hj, List.getElem?_drop]
    exact flat_get rc 6 (fun _ => rfl) R k x hx j hj
  · rw [List.getElem?_eq_none (by rw [List.length_take]; omega), List.getElem?_eq_none (by show (rc x).length ≤ j; rw [rc_len]; omega)]
theorem row_index (R : List (Q × Value)) (hR : R.length = 24) (k : Nat) (x : Q × Value) (hx : R[k]? = some x) (W : World) : (Instr.index 77 (.agg (R.flatMap rc).toArray) (.int .i64 k)).run Tryz.prog W = .ok (.agg (rc x).toArray) W := by
  have hk := (List.getElem?_eq_some_iff.1 hx).1
  have h1 : (0 : Int) ≤ k ∧ (k : Int) < 24 := by omega
  have hsz : (sizeOf 76).run Tryz.prog W = .ok 6 W := Tryz.sizeOf76 W
  have hag : (isAgg 76).run Tryz.prog W = .ok true W := Tryz.isAgg76 W
  have hx2 : List.take 6 (List.drop (k * 6) (R.flatMap rc)) = rc x := by
    have := congrArg Array.toList (rc_extract R k x hx)
    simpa using this
  simp [Instr.index, run_underlying Tryz.underlying77, asIntOf, part, hsz, hag]
  rw [if_pos (by omega), hx2]
theorem infoWs : (Tryz.prog.info? 29).map (·.size) = some 24 := by kernel_rfl
/-- 24 zeros -/
def zero24 : List Value := (List.replicate 24 0).map vi
theorem zeroWs : zero24.length = 24 := by decide
theorem zero24_eq : (zero24.toArray : Array Value) = #[.int .i64 0, .int .i64 0, .int .i64 0, .int .i64 0, .int .i64 0, .int .i64 0, .int .i64 0, .int .i64 0, .int .i64 0, .int .i64 0, .int .i64 0, .int .i64 0, .int .i64 0, .int .i64 0, .int .i64 0, .int .i64 0, .int .i64 0, .int .i64 0, .int .i64 0, .int .i64 0, .int .i64 0, .int .i64 0, .int .i64 0, .int .i64 0] := by rfl
/-- the weights that are known of all -/
def wsCells (Z : List Value) (ws : List Int) : List Value := ws.map vi ++ Z.drop ws.length
theorem wsCells_nil (Z : List Value) : wsCells Z [] = Z := by simp [wsCells]
theorem wsCells_put (Z : List Value) (hz : Z.length = 24) (ws : List Int) (x : Int) (h : ws.length < 24) : (wsCells Z ws).set ws.length (vi x) = wsCells Z (ws ++ [x]) := by
  have hd : ws.length < Z.length := by omega
  unfold wsCells
  rw [List.set_append_right _ _ (by simp), List.length_map, Nat.sub_self, List.drop_eq_getElem_cons hd, List.set_cons_zero]
  simp
theorem wsCells_at (Z : List Value) (hz : Z.length = 24) (ws : List Int) (h : ws.length < 24) : ∃ v, (wsCells Z ws)[ws.length]? = some v := by
  have : ws.length < (wsCells Z ws).length := by unfold wsCells; rw [List.length_append, List.length_map, List.length_drop, hz]; omega
  exact ⟨_, List.getElem?_eq_getElem this⟩
theorem wsCells_all (Z : List Value) (hz : Z.length = 24) (ws : List Int) (h : ws.length = 24) : wsCells Z ws = ws.map vi := by
  unfold wsCells
  rw [List.drop_eq_nil_of_le (by omega), List.append_nil]
/-- the weights of the first values -/
def wsK (a b c : Int) (L : List Q) (w : List Int) (l : Int) (ps : List Int) (k : Nat) : List Int := (List.range k).map fun (i : Nat) => wprod a b c L w l (small i) ps
theorem wsK_len (a b c : Int) (L : List Q) (w : List Int) (l : Int) (ps : List Int) (k : Nat) : (wsK a b c L w l ps k).length = k := by simp [wsK]
theorem wsK_succ (a b c : Int) (L : List Q) (w : List Int) (l : Int) (ps : List Int) (k : Nat) : wsK a b c L w l ps (k + 1) = wsK a b c L w l ps k ++ [wprod a b c L w l (small k) ps] := by
  simp [wsK, List.range_succ]
theorem wsOne (ws : List Int) : (ws.map vi).toArray.all (·.oneCell') = true := by
  simp only [List.all_toArray, List.all_eq_true, List.mem_map]
  rintro v ⟨x, -, rfl⟩
  rfl
set_option maxHeartbeats 6400000 in
theorem weightsOf_any (a b c l : Int) (L : List Q) (R : List (Q × Value)) (Bc Bw m bl off cap k pb po : Nat) (xs : List Value) (ps : List Int) (w0 w1 w2 w3 w4 : Int) (w : World) (hF : SmF a b c L) (hR : R.length = 24) (hRw : Rows w Bc Bw m R) (hcb : CB w Bc (.slice (some ⟨bl, off, none⟩) L.length cap) l (.slice (some ⟨pb, po, none⟩) ps.length k)) (hwb : WB w Bw [w0, w1, w2, w3, w4]) (hL : Lies w bl off L) (hP : PLs a b c w xs ps) (hX : ∀ (i : Nat) (x : Value), xs[i]? = some x → w.cell? ⟨pb, po + i, none⟩ = some x) (hps : ∀ p ∈ ps, 0 ≤ p ∧ p < 3 * (a * b * c)) (hp4 : ps.length ≤ 4) (hw : WOk [w0, w1, w2, w3, w4]) :
    Calls Tryz.prog 42 #[.agg (R.flatMap rc).toArray] w fun e w' => e = .returned (.tuple #[.agg ((wsK a b c L [w0, w1, w2, w3, w4] l ps 24).map vi).toArray, .int .i64 0]) ∧ Below w.heap.size w w' := by
  have HC := Lib.hid (fun (i : Nat) (hi : i < 24) (Bu : Nat) (W : World) (hb : Below w.heap.size w W) (hu : URead w Bu (small i)) => closure_any a b c l L (small i) Bc Bw Bu bl off cap k pb po xs ps w0 w1 w2 w3 w4 W hF ((⟨hcb, hwb, hu, hL, hP, hX⟩ : Cap a b c w Bc Bw Bu bl off cap k pb po l L (small i) [w0, w1, w2, w3, w4] ps xs).later hb) hps hp4 hw ⟨i, hi, rfl⟩)
  have HR := Lib.hid hRw
  have HI := Lib.hid (row_index R hR)
  have HRL := Lib.hid hR
  have hlen : (R.flatMap rc).toArray.size = 144 := by rw [List.size_toArray, flat6, hR]
  have hsz : (Tryz.prog.info? 77).map (·.size) = some (R.flatMap rc).toArray.size := by rw [infoRt, hlen]
  have HSZ := Lib.hid hsz
  have HN := Lib.hid (wsK_len a b c L [w0, w1, w2, w3, w4] l ps)
  have HS := Lib.hid (wsK_succ a b c L [w0, w1, w2, w3, w4] l ps)
  have H0 := Lib.hid (show wsK a b c L [w0, w1, w2, w3, w4] l ps 0 = [] from rfl)
  clear hF hR hRw hcb hwb hL hP hX hps hp4 hw hlen hsz
  generalize hA : (R.flatMap rc).toArray = A at *
  go_enter Tryz.func42, Tryz.ntmps42
  have tb0 := Lib.hid ((ABx.news (w := w) (T := 77) A).later ((Below.refl _ _).alloc (Nat.le_refl _) (.cells #[.int .i64 0, .int .i64 0, .int .i64 0, .int .i64 0, .int .i64 0, .int .i64 0, .int .i64 0, .int .i64 0, .int .i64 0, .int .i64 0, .int .i64 0, .int .i64 0, .int .i64 0, .int .i64 0, .int .i64 0, .int .i64 0, .int .i64 0, .int .i64 0, .int .i64 0, .int .i64 0, .int .i64 0, .int .i64 0, .int .i64 0, .int .i64 0] 29)) |>.later ((Below.refl _ _).alloc (Nat.le_refl _) (.cells #[.int .i64 0, .int .i64 0, .int .i64 0, .int .i64 0, .int .i64 0, .int .i64 0, .int .i64 0, .int .i64 0, .int .i64 0, .int .i64 0, .int .i64 0, .int .i64 0, .int .i64 0, .int .i64 0, .int .i64 0, .int .i64 0, .int .i64 0, .int .i64 0, .int .i64 0, .int .i64 0, .int .i64 0, .int .i64 0, .int .i64 0, .int .i64 0] 29)))
  go_wp2_with (refine wpList_load_row rfl 77 (.tmp 1) rfl w.heap.size rfl 77 A (0, 0) _ tb0.out.h Tryz.underlying77 rfl HSZ.out ?_)
  have rb0 := (ABx.news (w := w.alloc (.cells A 77)) (T := 29) #[.int .i64 0, .int .i64 0, .int .i64 0, .int .i64 0, .int .i64 0, .int .i64 0, .int .i64 0, .int .i64 0, .int .i64 0, .int .i64 0, .int .i64 0, .int .i64 0, .int .i64 0, .int .i64 0, .int .i64 0, .int .i64 0, .int .i64 0, .int .i64 0, .int .i64 0, .int .i64 0, .int .i64 0, .int .i64 0, .int .i64 0, .int .i64 0]).later ((Below.refl _ _).alloc (Nat.le_refl _) (.cells #[.int .i64 0, .int .i64 0, .int .i64 0, .int .i64 0, .int .i64 0, .int .i64 0, .int .i64 0, .int .i64 0, .int .i64 0, .int .i64 0, .int .i64 0, .int .i64 0, .int .i64 0, .int .i64 0, .int .i64 0, .int .i64 0, .int .i64 0, .int .i64 0, .int .i64 0, .int .i64 0, .int .i64 0, .int .i64 0, .int .i64 0, .int .i64 0] 29))
  have wb0 := ABx.news (w := (w.alloc (.cells A 77)).alloc (.cells #[.int .i64 0, .int .i64 0, .int .i64 0, .int .i64 0, .int .i64 0, .int .i64 0, .int .i64 0, .int .i64 0, .int .i64 0, .int .i64 0, .int .i64 0, .int .i64 0, .int .i64 0, .int .i64 0, .int .i64 0, .int .i64 0, .int .i64 0, .int .i64 0, .int .i64 0, .int .i64 0, .int .i64 0, .int .i64 0, .int .i64 0, .int .i64 0] 29)) (T := 29) #[.int .i64 0, .int .i64 0, .int .i64 0, .int .i64 0, .int .i64 0, .int .i64 0, .int .i64 0, .int .i64 0, .int .i64 0, .int .i64 0, .int .i64 0, .int .i64 0, .int .i64 0, .int .i64 0, .int .i64 0, .int .i64 0, .int .i64 0, .int .i64 0, .int .i64 0, .int .i64 0, .int .i64 0, .int .i64 0, .int .i64 0, .int .i64 0]
  simp only [World.size_alloc] at rb0 wb0
  have wb1 : ABx (((w.alloc (.cells A 77)).alloc (.cells #[.int .i64 0, .int .i64 0, .int .i64 0, .int .i64 0, .int .i64 0, .int .i64 0, .int .i64 0, .int .i64 0, .int .i64 0, .int .i64 0, .int .i64 0, .int .i64 0, .int .i64 0, .int .i64 0, .int .i64 0, .int .i64 0, .int .i64 0, .int .i64 0, .int .i64 0, .int .i64 0, .int .i64 0, .int .i64 0, .int .i64 0, .int .i64 0] 29)).alloc (.cells #[.int .i64 0, .int .i64 0, .int .i64 0, .int .i64 0, .int .i64 0, .int .i64 0, .int .i64 0, .int .i64 0, .int .i64 0, .int .i64 0, .int .i64 0, .int .i64 0, .int .i64 0, .int .i64 0, .int .i64 0, .int .i64 0, .int .i64 0, .int .i64 0, .int .i64 0, .int .i64 0, .int .i64 0, .int .i64 0, .int .i64 0, .int .i64 0] 29)) (w.heap.size + 1 + 1) 29 (wsCells zero24 (wsK a b c L [w0, w1, w2, w3, w4] l ps 0)) := wb0
  have rb1 : ABx (((w.alloc (.cells A 77)).alloc (.cells #[.int .i64 0, .int .i64 0, .int .i64 0, .int .i64 0, .int .i64 0, .int .i64 0, .int .i64 0, .int .i64 0, .int .i64 0, .int .i64 0, .int .i64 0, .int .i64 0, .int .i64 0, .int .i64 0, .int .i64 0, .int .i64 0, .int .i64 0, .int .i64 0, .int .i64 0, .int .i64 0, .int .i64 0, .int .i64 0, .int .i64 0, .int .i64 0] 29)).alloc (.cells #[.int .i64 0, .int .i64 0, .int .i64 0, .int .i64 0, .int .i64 0, .int .i64 0, .int .i64 0, .int .i64 0, .int .i64 0, .int .i64 0, .int .i64 0, .int .i64 0, .int .i64 0, .int .i64 0, .int .i64 0, .int .i64 0, .int .i64 0, .int .i64 0, .int .i64 0, .int .i64 0, .int .i64 0, .int .i64 0, .int .i64 0, .int .i64 0] 29)) (w.heap.size + 1) 29 zero24 := rb0
  have hB : Below w.heap.size w (((w.alloc (.cells A 77)).alloc (.cells #[.int .i64 0, .int .i64 0, .int .i64 0, .int .i64 0, .int .i64 0, .int .i64 0, .int .i64 0, .int .i64 0, .int .i64 0, .int .i64 0, .int .i64 0, .int .i64 0, .int .i64 0, .int .i64 0, .int .i64 0, .int .i64 0, .int .i64 0, .int .i64 0, .int .i64 0, .int .i64 0, .int .i64 0, .int .i64 0, .int .i64 0, .int .i64 0] 29)).alloc (.cells #[.int .i64 0, .int .i64 0, .int .i64 0, .int .i64 0, .int .i64 0, .int .i64 0, .int .i64 0, .int .i64 0, .int .i64 0, .int .i64 0, .int .i64 0, .int .i64 0, .int .i64 0, .int .i64 0, .int .i64 0, .int .i64 0, .int .i64 0, .int .i64 0, .int .i64 0, .int .i64 0, .int .i64 0, .int .i64 0, .int .i64 0, .int .i64 0] 29)) := by repeat (first | (with_reducible exact Below.refl _ _) | (with_reducible refine Below.setCell ?_ ?_ _) | (with_reducible refine Below.drew ?_) | (with_reducible refine Below.alloc ?_ ?_ _) | omega | (simp <;> omega))
  clear wb0 rb0 tb0
  go_loopw [5, 6, 7, 8, 10] (fun _ _ _ _ q wr => ∃ (j : Nat), j ≤ 24 ∧ q = .int .i64 j ∧ Hid (ABx wr (w.heap.size + 1) 29 zero24) ∧ Hid (ABx wr (w.heap.size + 1 + 1) 29 (wsCells zero24 (wsK a b c L [w0, w1, w2, w3, w4] l ps j))) ∧ Below w.heap.size w wr) (fun _ _ _ _ q _ => 24 - (intOf q).toNat)
  case atStart => exact ⟨0, by omega, rfl, Lib.hid rb1, Lib.hid wb1, hB⟩
  case round =>
    obtain ⟨j, hj, rfl, rb, wb, hb⟩ := hrel
    clear rb1 wb1 hB
    have hbs := hb.size
    by_cases hlt : j < 24
    · have i1 : (j : Int) < 24 := by omega
      have hx : R[j]? = some (R[j]'(by rw [HRL.out]; exact hlt)) := List.getElem?_eq_getElem _
      have hidx0 := HI.out j _ hx
      obtain ⟨hx1, Bu, hx2, hur, -⟩ := HR.out j _ hx
      generalize R[j]'(by rw [HRL.out]; exact hlt) = x at *
      obtain ⟨y, fv⟩ := x
      simp only at hx1 hx2
      have c5 := HC.out j hlt Bu
      have hsn := HS.out j
      obtain ⟨v, hv⟩ := wsCells_at zero24 zeroWs (wsK a b c L [w0, w1, w2, w3, w4] l ps j) (by rw [HN.out]; exact hlt)
      rw [HN.out] at hv
      have hput := wsCells_put zero24 zeroWs (wsK a b c L [w0, w1, w2, w3, w4] l ps j) (wprod a b c L [w0, w1, w2, w3, w4] l (small (j : Int)) ps) (by rw [HN.out]; exact hlt)
      rw [HN.out, ← hsn] at hput
      have g0 := (wb.out.cell j).trans hv
      have gz : ∀ i, wr.frozen? ⟨w.heap.size + 1 + 1, i, none⟩ = false := fun i => wb.out.free i
      have gl := wb.out.lt
      rw [← hx1] at hput c5 hur
      rw [hx2] at hidx0
      have hidx : ∀ W, (Instr.index 77 (.agg A) (.int .i64 j)).run Tryz.prog W = .ok (.agg #[.int .i64 y.a, .int .i64 y.b, .int .i64 y.c, .int .i64 y.d, .int .i64 y.n, .func (.func 79) #[] #[.pointer (some ⟨Bc, 0, none⟩), .pointer (some ⟨Bw, 0, none⟩), .pointer (some ⟨Bu, 0, none⟩)]]) W := fun W => hidx0 W
      have HPUT := Lib.hid hput
      have hbA : Below w.heap.size w (wr.alloc (.cells #[.int .i64 y.a, .int .i64 y.b, .int .i64 y.c, .int .i64 y.d, .int .i64 y.n, .func (.func 79) #[] #[.pointer (some ⟨Bc, 0, none⟩), .pointer (some ⟨Bw, 0, none⟩), .pointer (some ⟨Bu, 0, none⟩)]] 76)) := hb.alloc hbs _
      have HBA := Lib.hid hbA
      have c6 := c5 _ hbA hur
      clear hx hx1 hx2 hidx0 hur hsn hv hput hbA c5
      generalize wprod a b c L [w0, w1, w2, w3, w4] l y ps = z at *
      go_wp2_with ((with_reducible refine c6.mono ?_); clear c6; rintro e w5 ⟨rfl, hw5⟩; have hc5 := (Tail.cells hw5).1 (w.heap.size + 1 + 1) j (by simp; omega); have g5 : w5.cell? ⟨w.heap.size + 1 + 1, j, none⟩ = some v := (hc5.trans (by simp [go_sem, gl, g0])); have f5 : ∀ i, w5.frozen? ⟨w.heap.size + 1 + 1, i, none⟩ = false := (fun i => ((Tail.cells hw5).2 (w.heap.size + 1 + 1) i (by simp; omega)).trans (by simp [go_sem, gl, gz])); clear hc5)
      have A5 : Below wr.heap.size wr w5 := ((Below.refl _ _).alloc (Nat.le_refl _) (.cells #[.int .i64 y.a, .int .i64 y.b, .int .i64 y.c, .int .i64 y.d, .int .i64 y.n, .func (.func 79) #[] #[.pointer (some ⟨Bc, 0, none⟩), .pointer (some ⟨Bw, 0, none⟩), .pointer (some ⟨Bu, 0, none⟩)]] 76)).trans (hw5.mono (by simp))
      have rb5 := (rb.out.later A5).grown (grown_setCell w5 ⟨w.heap.size + 1 + 1, j, none⟩ (.int .i64 z)) (by simp)
      have wb5 := (wb.out.later A5).set j (vi z)
      rw [HPUT.out] at wb5
      have hb5 := (hb.trans (A5.mono hbs)).setCell (p := ⟨w.heap.size + 1 + 1, j, none⟩) (by show w.heap.size ≤ w.heap.size + 1 + 1; omega) (.int .i64 z)
      clear A5 hw5 g0 gz gl g5 f5 rb wb HBA
      exact ⟨⟨j + 1, by omega, by go_num, Lib.hid rb5, Lib.hid wb5, hb5⟩, by simp [intOf]; omega⟩
    · obtain rfl : j = 24 := by omega
      have e := wsCells_all zero24 zeroWs (wsK a b c L [w0, w1, w2, w3, w4] l ps 24) (HN.out 24)
      have tbh : wr.heap[w.heap.size + 1 + 1]? = some (.cells ((wsK a b c L [w0, w1, w2, w3, w4] l ps 24).map vi).toArray 29 (0, 0)) := by
        have := wb.out.h
        rwa [e] at this
      have hsz : (Tryz.prog.info? 29).map (·.size) = some ((wsK a b c L [w0, w1, w2, w3, w4] l ps 24).map vi).toArray.size := by rw [infoWs, List.size_toArray, List.length_map, HN.out]
      have hzs : zero24.toArray.size = ((wsK a b c L [w0, w1, w2, w3, w4] l ps 24).map vi).toArray.size := by rw [List.size_toArray, List.size_toArray, List.length_map, HN.out]; exact zeroWs
      have TBH := Lib.hid tbh
      have RBH := Lib.hid rb.out.h
      have HONE := Lib.hid (wsOne (wsK a b c L [w0, w1, w2, w3, w4] l ps 24))
      have HS2 := Lib.hid hsz
      have HZS := Lib.hid hzs
      clear e tbh hsz hzs rb wb
      generalize hW : ((wsK a b c L [w0, w1, w2, w3, w4] l ps 24).map vi).toArray = W2 at *
      have HW2 := Lib.hid hW
      clear hW
      go_wp2_with (first | (refine wpList_load_row rfl 29 (.tmp 4) rfl (w.heap.size + 1 + 1) rfl 29 W2 (0, 0) _ TBH.out Tryz.underlying29 rfl HS2.out ?_) | (refine wpList_store_row rfl 29 (.tmp 2) (.tmp 28) rfl (w.heap.size + 1) W2 rfl rfl 29 zero24.toArray RBH.out HS2.out HZS.out HONE.out ?_))
      have G1 := grown_setRow wr (w.heap.size + 1) W2
      have hh := setRow_heap wr (w.heap.size + 1) zero24.toArray W2 29 (0, 0) RBH.out
      refine bodyPost_ret (v := .tuple #[.agg W2, .int .i64 0]) ?_ rfl ⟨by rw [HW2.out], hb.grown G1 hbs (fun i hi => by simp at hi; omega)⟩
      simp [results, Tryz.results42, asAddr, run_loadVar_row _ _ _ _ _ _ _ hh Tryz.underlying29 rfl HS2.out]
end Go.Proofs.YtpfhjdmgkckjfaaGreatDoor
