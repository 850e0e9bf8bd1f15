/- Parts of steps, as the program does them.
Conditions: those written at each theorem. -/
import Derived.Test.YtilbhcjnkmeecaaKfC
import Derived.Test.YtilbhcjnkmeecaaKjC
namespace Go.Proofs.Ytilbhcjnkmeecaa
set_option linter.unusedVariables false
set_option linter.unusedSimpArgs false
set_option maxRecDepth 1000000
open Go.RowKit
open Um Tm Cm Km

/-- a part of a step, as a value -/
def pv (x : Bool) : Value := if x then .iface 137 (.agg #[]) else .iface 138 (.agg #[])
theorem ta_pp : ∀ w, (Instr.typeAssert (.iface 137 (.agg #[])) 172 137 true).run Try.prog w = .ok (.tuple #[.agg #[], .bool true]) w := fun _ => by kernel_rfl
theorem ta_dp : ∀ w, (Instr.typeAssert (.iface 138 (.agg #[])) 172 137 true).run Try.prog w = .ok (.tuple #[.agg #[], .bool false]) w := fun _ => by kernel_rfl
theorem ta_dd : ∀ w, (Instr.typeAssert (.iface 138 (.agg #[])) 172 138 true).run Try.prog w = .ok (.tuple #[.agg #[], .bool true]) w := fun _ => by kernel_rfl
/-- what a part does -/
def act (a b c : Int) (s : List Q × List Int) (x : Bool) : List Q × List Int := if x then (s.1, psh (frc a b c s.1) s.2) else (dft s.1 s.2, s.2)
/-- a course with its momenta, in a state -/
structure KS (a b c : Int) (n N : Nat) (w : World) (m B gl gx gp gm kl kx km : Nat) (s : List Q × List Int) : Prop where
  co : CO a b c n N w m B gl gx gp kl kx s.1
  cm : CM n w m B gl gx gp gm km s.2
  st : St a b c n s.1 s.2
theorem act_St {a b c : Int} {n : Nat} {s : List Q × List Int} (h : St a b c n s.1 s.2) (x : Bool) : St a b c n (act a b c s x).1 (act a b c s x).2 := by
  cases x with
  | true => exact h.push _
  | false => exact h.drift
/-- the list while it is written -/
def mixL (T l : List Int) (k : Nat) : List Int := T.take k ++ l.drop k
theorem mix_zero (T l : List Int) : mixL T l 0 = l := by simp [mixL]
theorem mix_end {T l : List Int} (h : T.length = l.length) : mixL T l l.length = T := by
  unfold mixL
  rw [← h, List.take_length, h, List.drop_length, List.append_nil]
theorem mix_len {T l : List Int} (h : T.length = l.length) (k : Nat) (hk : k ≤ l.length) : (mixL T l k).length = l.length := by
  unfold mixL
  rw [List.length_append, List.length_take, List.length_drop]
  omega
theorem mix_set {T l : List Int} (h : T.length = l.length) {k : Nat} (hk : k < l.length) {v : Int} (hv : T[k]? = some v) : (mixL T l k).set k v = mixL T l (k + 1) := by
  have := set_take_drop h hk
  rw [List.getElem?_eq_getElem (by omega)] at hv
  rw [Option.some.inj hv] at this
  exact this
theorem mix_at {T l : List Int} (h : T.length = l.length) {i j : Nat} (hij : i ≤ j) (hj : j < l.length) : (mixL T l i)[j]? = l[j]? := at_take_drop h hij hj
def mixQ (T L : List Q) (k : Nat) : List Q := T.take k ++ L.drop k
theorem mixQ_zero (T L : List Q) : mixQ T L 0 = L := by simp [mixQ]
theorem mixQ_end {T L : List Q} (h : T.length = L.length) : mixQ T L L.length = T := by
  unfold mixQ
  rw [← h, List.take_length, h, List.drop_length, List.append_nil]
theorem mixQ_len {T L : List Q} (h : T.length = L.length) (k : Nat) (hk : k ≤ L.length) : (mixQ T L k).length = L.length := by
  unfold mixQ
  rw [List.length_append, List.length_take, List.length_drop]
  omega
theorem mixQ_set {T L : List Q} (h : T.length = L.length) {k : Nat} (hk : k < L.length) {v : Q} (hv : T[k]? = some v) : (mixQ T L k).set k v = mixQ T L (k + 1) := by
  have := set_take_drop h hk
  rw [List.getElem?_eq_getElem (by omega)] at hv
  rw [Option.some.inj hv] at this
  exact this
theorem mixQ_at {T L : List Q} (h : T.length = L.length) {i j : Nat} (hij : i ≤ j) (hj : j < L.length) : (mixQ T L i)[j]? = L[j]? := at_take_drop h hij hj
theorem psh_at (F : Nat → Kk) {l : List Int} {j i : Nat} (hi : i < 3) (h : j * 3 + i < l.length) : (psh F l)[j * 3 + i]? = some ((l[j * 3 + i] + (F j).at i) % 8) := by
  rw [psh_get F l h, show (j * 3 + i) / 3 = j by omega, show (j * 3 + i) % 3 = i by omega]
theorem frc_rng {a b c : Int} {L : List Q} (hF : Fl a b c L) (hS : ∀ x ∈ L, IsS x) {i : Nat} (hi : i < L.length) : (-8 ≤ (frc a b c L i).a ∧ (frc a b c L i).a ≤ 8) ∧ (-8 ≤ (frc a b c L i).b ∧ (frc a b c L i).b ≤ 8) ∧ (-8 ≤ (frc a b c L i).c ∧ (frc a b c L i).c ≤ 8) := by
  have hl3 := hF.n
  have h0 : (0 : Int) ≤ (i : Int) / 3 := by omega
  have h1 : (i : Int) / 3 < a * b * c := by omega
  have d1 : 1 ≤ (i : Int) % 3 + 1 := by omega
  have d3 : (i : Int) % 3 + 1 ≤ 3 := by omega
  obtain ⟨i1, i2, i3⟩ := e_step d1 d3
  have q1 := (pl4_S hF hS h0 h1 i3 i1).tw.2.2.2.2
  have q2 := (pl4_S hF hS h0 h1 i3 (neg_step i1)).tw.2.2.2.2
  have q3 := (pl4_S hF hS h0 h1 i3 i2).tw.2.2.2.2
  have q4 := (pl4_S hF hS h0 h1 i3 (neg_step i2)).tw.2.2.2.2
  unfold frc frA
  simp only
  omega
set_option maxHeartbeats 12800000 in
theorem do_any (a b c : Int) (n N : Nat) (w : World) (m B gl gx gp gm kl kx km pb pc : Nat) (s : List Q × List Int) (P : List Bool) (h : KS a b c n N w m B gl gx gp gm kl kx km s) (hN : (N : Int) = a * b * c) (hP : ∀ (i : Nat) (x : Bool), P[i]? = some x → w.cell? ⟨pb, i, none⟩ = some (pv x)) (hp3 : P.length ≤ 3) (n1 : pb ≠ gl) (n2 : pb ≠ gp) (n3 : pb ≠ gm) :
    Calls Try.prog 95 #[.pointer (some ⟨B, 0, none⟩), .slice (some ⟨pb, 0, none⟩) P.length pc] w fun e w' => e = .returned (.tuple #[]) ∧ KS a b c n N w' m B gl gx gp gm kl kx km (P.foldl (act a b c) s) ∧ Below m w w' := by
  have kc := @Tail.cell_re
  have kc1 : ∀ (W : World) (o : Obj) (d : Nat) (os : Array Obj) (a : Addr), a.block ≤ W.heap.size → (Sort.grow (redrawn (W.alloc o) d) os).cell? a = (W.alloc o).cell? a := fun W o d os a h => Tail.cell_re (W.alloc o) d os a (Nat.lt_of_le_of_lt h (by simp))
  have HPc := Lib.hid hP
  have HNN := Lib.hid hN
  have HK0 := Lib.hid h
  have HT := Lib.hid (fun k : Nat => (show k < P.length → P.foldl (act a b c) s = P.foldl (act a b c) s from fun _ => rfl))
  have HX := Lib.hid (fun (k : Nat) (x : Bool) (hx : P[k]? = some x) => show (P.take (k + 1)).foldl (act a b c) s = act a b c ((P.take k).foldl (act a b c) s) x by
    have hk := (List.getElem?_eq_some_iff.1 hx).1
    rw [List.take_succ_eq_append_getElem hk, List.foldl_append]
    rw [(List.getElem?_eq_some_iff.1 hx).2]
    rfl)
  have hmw : m ≤ w.heap.size := Nat.le_of_lt (Nat.lt_of_le_of_lt h.co.mb h.co.lb)
  clear h hP hN HT
  have t1 := ta_pp
  have t2 := ta_dp
  have t3 := ta_dd
  go_enter Try.func95, Try.ntmps95
  go_wp2
  go_loopw [5, 6, 7, 8, 9, 10, 13] (fun _ _ _ _ _ _ q wr => ∃ k : Nat, k ≤ P.length ∧ q = .int .i64 k ∧ Hid (KS a b c n N wr m B gl gx gp gm kl kx km ((P.take k).foldl (act a b c) s)) ∧ Hid (∀ (i : Nat) (x : Bool), P[i]? = some x → wr.cell? ⟨pb, i, none⟩ = some (pv x)) ∧ Below m w wr) (fun _ _ _ _ _ _ q _ => P.length - (intOf q).toNat)
  case atStart => exact ⟨0, by omega, rfl, HK0, HPc, Below.refl _ _⟩
  case round =>
    obtain ⟨k, hk, rfl, hK, hPc, hb⟩ := hrel
    by_cases hlt : k < P.length
    · have i1 : (k : Int) < (P.length : Int) := by omega
      have hx : P[k]? = some P[k] := List.getElem?_eq_getElem hlt
      have hnext := HX.out k _ hx
      have hcell := hPc.out k _ hx
      generalize P[k] = x at *
      generalize (P.take k).foldl (act a b c) s = s0 at *
      have HNX := Lib.hid hnext
      have hpl : pb < wr.heap.size := World.block_lt_of_cell? wr _ hcell
      clear hnext hx
      cases x with
      | true =>
        have hcell' : wr.cell? ⟨pb, k, none⟩ = some (.iface 137 (.agg #[])) := hcell
        clear hcell
        have cm := hK.out.cm.cm
        have lB := hK.out.co.lb
        obtain ⟨L, l⟩ := s0
        have hSt := hK.out.st
        have hco0 := hK.out.co
        have hcm0 := hK.out.cm
        simp only at hSt hco0 hcm0
        have HF := Lib.hid (fun (W : World) (j : Nat) (hj : j < n) (hC : CO a b c n N W m B gl gx gp kl kx L) => forceC_any a b c n N W m B gl gx gp kl kx L j hC hSt.f hSt.s hSt.e HNN.out hj)
        have HR := Lib.hid (fun (j : Nat) (hj : j < n) => frc_rng hSt.f hSt.s (i := j) (by rw [hSt.e]; exact hj))
        have HSN := Lib.hid (act_St (a := a) (b := b) (c := c) (s := (L, l)) hSt true)
        have hTl : (psh (frc a b c L) l).length = l.length := psh_len _ _
        have HTA := Lib.hid (fun (j i : Nat) (hi : i < 3) (h : j * 3 + i < l.length) => psh_at (frc a b c L) hi h)
        have HLN := Lib.hid hSt.m
        have HLK := Lib.hid hSt.k
        have HTL := Lib.hid hTl
        have HAC := Lib.hid (show act a b c (L, l) true = (L, psh (frc a b c L) l) from rfl)
        have n48 : n ≤ 48 := by have := hSt.f.n; have := hSt.f.z.p; have := hSt.e; omega
        have HCO := Lib.hid hco0
        have HCM : Hid (CM n wr m B gl gx gp gm km (mixL (psh (frc a b c L) l) l (0 * 3))) := by rw [Nat.zero_mul, mix_zero]; exact Lib.hid hcm0
        have hd1 := hco0.d1
        have hd3 := hco0.d3
        have he1 := hcm0.e1
        have he2 := hcm0.e2
        have he3 := hcm0.e3
        have he4 := hcm0.e4
        have hmm := hcm0.mm
        have hmp := hco0.mp
        clear hSt hco0 hcm0 hTl hK
        generalize psh (frc a b c L) l = T at *
        generalize frc a b c L = F at *
        go_wp2
        obtain ⟨wo, hwo⟩ : ∃ wo : World, wo = wr := ⟨_, rfl⟩
        subst hwo
        go_loopw [6, 7, 8, 26] (fun _ _ _ q2 wi => ∃ j : Nat, j ≤ n ∧ q2 = .int .i64 j ∧ Hid (CO a b c n N wi m B gl gx gp kl kx L) ∧ Hid (CM n wi m B gl gx gp gm km (mixL T l (j * 3))) ∧ Hid (∀ (i : Nat) (x : Bool), P[i]? = some x → wi.cell? ⟨pb, i, none⟩ = some (pv x)) ∧ Below m w wi) (fun _ _ _ q2 _ => n - (intOf q2).toNat)
        case atStart => exact ⟨0, by omega, rfl, HCO, HCM, hPc, hb⟩
        case round =>
          obtain ⟨j, hj, rfl, hC, hM, hPi, hbi⟩ := hrel
          clear HCO HCM hPc hb cm lB hcell' hpl
          by_cases hjn : j < n
          · have j1 : (j : Int) < (n : Int) := by omega
            have c0 := fun (W : World) (h : CO a b c n N W m B gl gx gp kl kx L) => HF.out W j hjn h
            obtain ⟨⟨a1, a2⟩, ⟨b1, b2⟩, ⟨g1, g2⟩⟩ := HR.out j hjn
            have hl0 : j * 3 + 0 < l.length := by have := HLN.out; omega
            have hl1 : j * 3 + 1 < l.length := by have := HLN.out; omega
            have hl2 : j * 3 + 2 < l.length := by have := HLN.out; omega
            have v0 := HTA.out j 0 (by omega) hl0
            have v1 := HTA.out j 1 (by omega) hl1
            have v2 := HTA.out j 2 (by omega) hl2
            have m0 := mix_set HTL.out hl0 v0
            have m1 := mix_set HTL.out hl1 v1
            have m2 := mix_set HTL.out hl2 v2
            have o0 := mix_at HTL.out (Nat.le_refl (j * 3 + 0)) hl0
            have o1 := mix_at HTL.out (Nat.le_refl (j * 3 + 1)) hl1
            have o2 := mix_at HTL.out (Nat.le_refl (j * 3 + 2)) hl2
            have k0 := HLK.out _ (List.getElem_mem hl0)
            have k1 := HLK.out _ (List.getElem_mem hl1)
            have k2 := HLK.out _ (List.getElem_mem hl2)
            have p0 := mix_len HTL.out (j * 3 + 0) (by omega)
            have p1 := mix_len HTL.out (j * 3 + 1) (by omega)
            have p2 := mix_len HTL.out (j * 3 + 2) (by omega)
            rw [List.getElem?_eq_getElem hl0] at o0
            rw [List.getElem?_eq_getElem hl1] at o1
            rw [List.getElem?_eq_getElem hl2] at o2
            clear v0 v1 v2
            generalize l[j * 3 + 0] = x0 at *
            generalize l[j * 3 + 1] = x1 at *
            generalize l[j * 3 + 2] = x2 at *
            rw [show (F j).at 0 = (F j).a from rfl] at m0
            rw [show (F j).at 1 = (F j).b from rfl] at m1
            rw [show (F j).at 2 = (F j).c from rfl] at m2
            generalize (F j).a = f0 at *
            generalize (F j).b = f1 at *
            generalize (F j).c = f2 at *
            obtain ⟨k00, k01⟩ := k0
            obtain ⟨k10, k11⟩ := k1
            obtain ⟨k20, k21⟩ := k2
            have t0 := fun W : World => still (turned_any (x0 + f0) W)
            have t1' := fun W : World => still (turned_any (x1 + f1) W)
            have t2' := fun W : World => still (turned_any (x2 + f2) W)
            have ia0 := ixC0 f0 f1 f2
            have ia1 := ixC1 f0 f1 f2
            have ia2 := ixC2 f0 f1 f2
            generalize (x0 + f0) % 8 = y0 at *
            generalize (x1 + f1) % 8 = y1 at *
            generalize (x2 + f2) % 8 = y2 at *
            have HM0 := Lib.hid m0
            have HM1 := Lib.hid m1
            have HM2 := Lib.hid m2
            have HO0 := Lib.hid o0
            have HO1 := Lib.hid o1
            have HO2 := Lib.hid o2
            have HQ0 := Lib.hid (show j * 3 + 0 < (mixL T l (j * 3 + 0)).length by omega)
            have HQ1 := Lib.hid (show j * 3 + 1 < (mixL T l (j * 3 + 1)).length by omega)
            have HQ2 := Lib.hid (show j * 3 + 2 < (mixL T l (j * 3 + 2)).length by omega)
            clear m0 m1 m2 o0 o1 o2 p0 p1 p2 hl0 hl1 hl2
            have lBi := hC.out.lb
            have HBi := Lib.hid hbi
            clear hbi
            go_wp2_with (fail)
            refine (c0 _ hC.out).mono ?_
            clear c0
            rintro e w1 ⟨rfl, hg1, hp1⟩
            have C0 := Lib.hid (hC.out.touch hg1 hp1)
            have M0 : Hid (CM n w1 m B gl gx gp gm km (mixL T l (j * 3 + 0))) := Lib.hid (hM.out.far hg1 (by simp; exact hd3) (by simp; exact he1))
            have Q0 : Hid (∀ (i : Nat) (x : Bool), P[i]? = some x → w1.cell? ⟨pb, i, none⟩ = some (pv x)) := Lib.hid (fun i x hx => hg1.cell (hPi.out i x hx) (by simp; exact n2))
            have b0 := Lib.hid (HBi.out.grown hg1 (Nat.le_of_lt (Nat.lt_of_le_of_lt hC.out.mb hC.out.lb)) (fun i hi => by simp at hi; omega))
            clear hC hM hPi HBi lBi hg1 hp1
            go_wp2_with (fail)
            refine wp_loop_rounds 4 ?_
            have cm0 := M0.out.cm
            have xc0 := M0.out.mi.at HO0.out
            rw [Nat.add_zero] at xc0
            have ff0 := M0.out.mi.free
            have lg0 := M0.out.mi.lt
            have lb0 := C0.out.lb
            rw [rounds_succ]
            go_wp2
            refine Tail.region_tail_below 20 (by kernel_rfl) (by kernel_rfl) ?_
            simp only [List.take_succ_cons, List.take_zero]
            repeat (go_big_quiet_step (first | (with_reducible exact Calls.regrown_of (t0 _))))
            refine wpQuiet_nil ?_
            intro z0 hz0
            have Cz0 := C0.out.later hz0
            have Mz0 := M0.out.later hz0
            have bz0 := b0.out.trans (hz0.mono (Nat.le_of_lt (Nat.lt_of_le_of_lt C0.out.mb C0.out.lb)))
            have Qz0 : ∀ (i : Nat) (x : Bool), P[i]? = some x → z0.cell? ⟨pb, i, none⟩ = some (pv x) := fun i x hx => held_below hz0 (Q0.out i x hx)
            have xz0 := Mz0.mi.at HO0.out
            rw [Nat.add_zero] at xz0
            have fz0 := Mz0.mi.free
            have lz0 := Mz0.mi.lt
            have Mp := Mz0.put (j * 3 + 0) HQ0.out y0
            rw [HM0.out] at Mp
            have Gp := grown_setCell z0 ⟨gm, j * 3 + 0, none⟩ (.int .i64 y0)
            have C1 := Lib.hid (Cz0.far Gp (by simp; exact Ne.symm he4) (by simp; exact Ne.symm he2) (by simp; exact Ne.symm he3) (by simp; exact Ne.symm he1))
            have M1 := Lib.hid Mp
            have Q1 : Hid (∀ (i : Nat) (x : Bool), P[i]? = some x → (z0.setCell ⟨gm, j * 3 + 0, none⟩ (.int .i64 y0)).cell? ⟨pb, i, none⟩ = some (pv x)) := Lib.hid (fun i x hx => Gp.cell (Qz0 i x hx) (by simp; exact n3))
            have b1 := Lib.hid (bz0.setCell (p := ⟨gm, j * 3 + 0, none⟩) hmm (.int .i64 y0))
            clear Cz0 Mz0 bz0 Qz0 Mp Gp cm0 xc0 ff0 lg0 lb0 C0 M0 Q0 b0 hz0
            simp only [Nat.add_zero] at C1 M1 Q1 b1
            go_wp2
            clear xz0 fz0 lz0
            generalize z0.setCell ⟨gm, j * 3, none⟩ (.int .i64 y0) = X1 at *
            have cm1 := M1.out.cm
            have xc1 := M1.out.mi.at HO1.out
            have ff1 := M1.out.mi.free
            have lg1 := M1.out.mi.lt
            have lb1 := C1.out.lb
            rw [rounds_succ]
            go_wp2
            refine Tail.region_tail_below 20 (by kernel_rfl) (by kernel_rfl) ?_
            simp only [List.take_succ_cons, List.take_zero]
            repeat (go_big_quiet_step (first | (with_reducible exact Calls.regrown_of (t1' _))))
            refine wpQuiet_nil ?_
            intro z1 hz1
            have Cz1 := C1.out.later hz1
            have Mz1 := M1.out.later hz1
            have bz1 := b1.out.trans (hz1.mono (Nat.le_of_lt (Nat.lt_of_le_of_lt C1.out.mb C1.out.lb)))
            have Qz1 : ∀ (i : Nat) (x : Bool), P[i]? = some x → z1.cell? ⟨pb, i, none⟩ = some (pv x) := fun i x hx => held_below hz1 (Q1.out i x hx)
            have xz1 := Mz1.mi.at HO1.out
            have fz1 := Mz1.mi.free
            have lz1 := Mz1.mi.lt
            have Mp := Mz1.put (j * 3 + 1) HQ1.out y1
            rw [HM1.out] at Mp
            have Gp := grown_setCell z1 ⟨gm, j * 3 + 1, none⟩ (.int .i64 y1)
            have C2 := Lib.hid (Cz1.far Gp (by simp; exact Ne.symm he4) (by simp; exact Ne.symm he2) (by simp; exact Ne.symm he3) (by simp; exact Ne.symm he1))
            have M2 := Lib.hid Mp
            have Q2 : Hid (∀ (i : Nat) (x : Bool), P[i]? = some x → (z1.setCell ⟨gm, j * 3 + 1, none⟩ (.int .i64 y1)).cell? ⟨pb, i, none⟩ = some (pv x)) := Lib.hid (fun i x hx => Gp.cell (Qz1 i x hx) (by simp; exact n3))
            have b2 := Lib.hid (bz1.setCell (p := ⟨gm, j * 3 + 1, none⟩) hmm (.int .i64 y1))
            clear Cz1 Mz1 bz1 Qz1 Mp Gp cm1 xc1 ff1 lg1 lb1 C1 M1 Q1 b1 hz1
            go_wp2
            clear xz1 fz1 lz1
            generalize z1.setCell ⟨gm, j * 3 + 1, none⟩ (.int .i64 y1) = X2 at *
            have cm2 := M2.out.cm
            have xc2 := M2.out.mi.at HO2.out
            have ff2 := M2.out.mi.free
            have lg2 := M2.out.mi.lt
            have lb2 := C2.out.lb
            rw [rounds_succ]
            go_wp2
            refine Tail.region_tail_below 20 (by kernel_rfl) (by kernel_rfl) ?_
            simp only [List.take_succ_cons, List.take_zero]
            repeat (go_big_quiet_step (first | (with_reducible exact Calls.regrown_of (t2' _))))
            refine wpQuiet_nil ?_
            intro z2 hz2
            have Cz2 := C2.out.later hz2
            have Mz2 := M2.out.later hz2
            have bz2 := b2.out.trans (hz2.mono (Nat.le_of_lt (Nat.lt_of_le_of_lt C2.out.mb C2.out.lb)))
            have Qz2 : ∀ (i : Nat) (x : Bool), P[i]? = some x → z2.cell? ⟨pb, i, none⟩ = some (pv x) := fun i x hx => held_below hz2 (Q2.out i x hx)
            have xz2 := Mz2.mi.at HO2.out
            have fz2 := Mz2.mi.free
            have lz2 := Mz2.mi.lt
            have Mp := Mz2.put (j * 3 + 2) HQ2.out y2
            rw [HM2.out] at Mp
            have Gp := grown_setCell z2 ⟨gm, j * 3 + 2, none⟩ (.int .i64 y2)
            have C3 := Lib.hid (Cz2.far Gp (by simp; exact Ne.symm he4) (by simp; exact Ne.symm he2) (by simp; exact Ne.symm he3) (by simp; exact Ne.symm he1))
            have M3 := Lib.hid Mp
            have Q3 : Hid (∀ (i : Nat) (x : Bool), P[i]? = some x → (z2.setCell ⟨gm, j * 3 + 2, none⟩ (.int .i64 y2)).cell? ⟨pb, i, none⟩ = some (pv x)) := Lib.hid (fun i x hx => Gp.cell (Qz2 i x hx) (by simp; exact n3))
            have b3 := Lib.hid (bz2.setCell (p := ⟨gm, j * 3 + 2, none⟩) hmm (.int .i64 y2))
            clear Cz2 Mz2 bz2 Qz2 Mp Gp cm2 xc2 ff2 lg2 lb2 C2 M2 Q2 b2 hz2
            go_wp2
            clear xz2 fz2 lz2
            generalize z2.setCell ⟨gm, j * 3 + 2, none⟩ (.int .i64 y2) = X3 at *
            rw [rounds_succ]
            have M4 : Hid (CM n X3 m B gl gx gp gm km (mixL T l ((j + 1) * 3))) := by rw [show (j + 1) * 3 = j * 3 + 3 by omega]; exact M3
            go_wp2
            exact ⟨⟨j + 1, by omega, by go_num, C3, M4, Q3, b3.out⟩, by simp [intOf]; omega⟩
          · obtain rfl : j = n := by omega
            have hMf := hM.out
            rw [show j * 3 = l.length from HLN.out.symm, mix_end HTL.out] at hMf
            have HKS : Hid (KS a b c j N wr m B gl gx gp gm kl kx km (act a b c (L, l) true)) := by
              rw [HAC.out]
              have := HSN.out
              rw [HAC.out] at this
              exact Lib.hid ⟨hC.out, hMf, this⟩
            rw [← HNX.out] at HKS
            clear hMf hC hM
            go_wp2
            exact ⟨⟨k + 1, by omega, by go_num, HKS, hPi, hbi⟩, by simp [intOf]; omega⟩
      | false =>
        have hcell' : wr.cell? ⟨pb, k, none⟩ = some (.iface 138 (.agg #[])) := hcell
        clear hcell
        have cm := hK.out.cm.cm
        have lB := hK.out.co.lb
        obtain ⟨L, l⟩ := s0
        have hSt := hK.out.st
        have hco0 := hK.out.co
        have hcm0 := hK.out.cm
        simp only at hSt hco0 hcm0
        have HSN := Lib.hid (act_St (a := a) (b := b) (c := c) (s := (L, l)) hSt false)
        have hTl : (dft L l).length = L.length := dft_len _ _
        have HTA := Lib.hid (fun (j : Nat) (h : j < L.length) => dft_get L l h)
        have HTN := Lib.hid (fun (j : Nat) => turn_S (hSt.k.at3 j))
        have HLS := Lib.hid hSt.s
        have HLN := Lib.hid hSt.m
        have HLE := Lib.hid hSt.e
        have HLK := Lib.hid hSt.k
        have HTL := Lib.hid hTl
        have HAC := Lib.hid (show act a b c (L, l) false = (dft L l, l) from rfl)
        have n48 : n ≤ 48 := by have := hSt.f.n; have := hSt.f.z.p; have := hSt.e; omega
        have HCM := Lib.hid hcm0
        have HCO : Hid (CO a b c n N wr m B gl gx gp kl kx (mixQ (dft L l) L 0)) := by rw [mixQ_zero]; exact Lib.hid hco0
        have hd1 := hco0.d1
        have hd3 := hco0.d3
        have hd5 := hco0.d5
        have he1 := hcm0.e1
        have he2 := hcm0.e2
        have he4 := hcm0.e4
        have hmm := hcm0.mm
        have hmp := hco0.mp
        have hml := hco0.ml
        clear hSt hco0 hcm0 hTl hK
        generalize dft L l = T at *
        go_wp2
        obtain ⟨wo, hwo⟩ : ∃ wo : World, wo = wr := ⟨_, rfl⟩
        subst hwo
        go_loopw [9, 10, 66] (fun _ _ q2 wi => ∃ j : Nat, j ≤ n ∧ q2 = .int .i64 j ∧ Hid (CO a b c n N wi m B gl gx gp kl kx (mixQ T L j)) ∧ Hid (CM n wi m B gl gx gp gm km l) ∧ Hid (∀ (i : Nat) (x : Bool), P[i]? = some x → wi.cell? ⟨pb, i, none⟩ = some (pv x)) ∧ Below m w wi) (fun _ _ q2 _ => n - (intOf q2).toNat)
        case atStart => exact ⟨0, by omega, rfl, HCO, HCM, hPc, hb⟩
        case round =>
          obtain ⟨j, hj, rfl, hC, hM, hPi, hbi⟩ := hrel
          clear HCO HCM hPc hb cm lB hcell' hpl
          by_cases hjn : j < n
          · have j1 : (j : Int) < (n : Int) := by omega
            have hl2 : j * 3 + 2 < l.length := by have := HLN.out; omega
            have hlj : j < L.length := by have := HLE.out; omega
            have v0 := HTA.out j hlj
            have m0 := mixQ_set HTL.out hlj v0
            have o0 := mixQ_at HTL.out (Nat.le_refl j) hlj
            have pl0 := mixQ_len HTL.out j (by omega)
            rw [List.getElem?_eq_getElem hlj] at o0
            have hS0 := HTN.out j
            have hY := HLS.out _ (List.getElem_mem hlj)
            have cm := hM.out.cm
            have x0 := hM.out.mi.at (List.getElem?_eq_getElem (show j * 3 < l.length by omega))
            have x1 := hM.out.mi.at (List.getElem?_eq_getElem (show j * 3 + 1 < l.length by omega))
            have x2 := hM.out.mi.at (List.getElem?_eq_getElem hl2)
            have ek : at3 l j = ⟨l[j * 3]'(by omega), l[j * 3 + 1]'(by omega), l[j * 3 + 2]⟩ := by
              unfold at3
              simp only [List.getD_eq_getElem?_getD, List.getElem?_eq_getElem (show j * 3 < l.length by omega), List.getElem?_eq_getElem (show j * 3 + 1 < l.length by omega), List.getElem?_eq_getElem hl2, Option.getD_some]
            rw [ek] at hS0 m0
            clear ek v0
            generalize l[j * 3]'(by omega) = k0 at *
            generalize l[j * 3 + 1]'(by omega) = k1 at *
            generalize l[j * 3 + 2] = k2 at *
            generalize L[j] = y at *
            have c1 := fun W : World => turner_any ⟨k0, k1, k2⟩ W
            simp only at c1
            generalize turn ⟨k0, k1, k2⟩ = u at *
            have c2 := fun W : World => numberOf_any u W hS0.1
            have c3 := fun (W : World) (h : PR W gp) => timesN_any gp u y W h hS0.1 hY
            generalize low (mul u y) = v at *
            have lgm := hM.out.mi.lt
            have lgl := hC.out.li.lt
            have lgp := hC.out.pr.lt
            have lB := hC.out.lb
            have lpb : pb < wr.heap.size ∨ True := .inr trivial
            have hlk := hC.out.li.at (i := j) (x := nm y) (by rw [List.getElem?_map, o0]; rfl)
            have cl := hC.out.cl
            have cp := hC.out.cp
            have HM0 := Lib.hid m0
            have HPL := Lib.hid (show j < (mixQ T L j).length by omega)
            clear m0 o0 pl0 hS0 hY hl2 hlj
            go_wp2
            have r0 : (wr.alloc (.cells #[.int .i64 k0, .int .i64 k1, .int .i64 k2] 34)).cell? ⟨wr.heap.size, 0, none⟩ = some (.int .i64 k0) := by simp [go_sem]
            have r1 : (wr.alloc (.cells #[.int .i64 k0, .int .i64 k1, .int .i64 k2] 34)).cell? ⟨wr.heap.size, 1, none⟩ = some (.int .i64 k1) := by simp [go_sem]
            have r2 : (wr.alloc (.cells #[.int .i64 k0, .int .i64 k1, .int .i64 k2] 34)).cell? ⟨wr.heap.size, 2, none⟩ = some (.int .i64 k2) := by simp [go_sem]
            have bA : Below wr.heap.size wr (wr.alloc (.cells #[.int .i64 k0, .int .i64 k1, .int .i64 k2] 34)) := by repeat (first | (with_reducible exact Below.refl _ _) | (with_reducible refine Below.setCell ?_ ?_ _) | (with_reducible refine Below.drew ?_) | (with_reducible refine Below.alloc ?_ ?_ _) | omega | (simp <;> omega))
            have yl := held_below bA cl
            have yp := held_below bA cp
            have yk := held_below bA hlk
            have CA := hC.out.later bA
            have MA := Lib.hid (hM.out.later bA)
            have fA := CA.li.free
            have lA := CA.li.lt
            have lpA := CA.pr.lt
            have QA : Hid (∀ (i : Nat) (x : Bool), P[i]? = some x → (wr.alloc (.cells #[.int .i64 k0, .int .i64 k1, .int .i64 k2] 34)).cell? ⟨pb, i, none⟩ = some (pv x)) := Lib.hid (fun i x hx => held_below bA (hPi.out i x hx))
            have HBA := Lib.hid (hbi.trans (bA.mono (Nat.le_of_lt (Nat.lt_of_le_of_lt hC.out.mb hC.out.lb))))
            have HCA := Lib.hid CA
            have hRg : wr.heap.size ≠ gp := by omega
            have hglR : gl ≠ wr.heap.size := by omega
            clear bA CA hC hM hPi hbi cl cp hlk cm x0 x1 x2 lgm lgl lgp lpb
            generalize wr.alloc (.cells #[.int .i64 k0, .int .i64 k1, .int .i64 k2] 34) = A at *
            have lR : wr.heap.size < A.heap.size := World.block_lt_of_cell? A _ r0
            have lBA : B < A.heap.size := World.block_lt_of_cell? A _ yl
            generalize wr.heap.size = R at *
            refine wp_region_noPanic ?_
            refine wp_region_held_drew (S := (fun w' => w'.cell? ⟨B, 3, none⟩ = some (.slice (some ⟨gl, 0, none⟩) n kl) ∧ w'.cell? ⟨B, 6, none⟩ = some (.pointer (some ⟨gp, 0, none⟩)) ∧ w'.cell? ⟨R, 0, none⟩ = some (.int .i64 k0) ∧ w'.cell? ⟨R, 1, none⟩ = some (.int .i64 k1) ∧ w'.cell? ⟨R, 2, none⟩ = some (.int .i64 k2))) (by kernel_rfl) ?_ (fun hHeld => ?_)
            · (try dsimp only)
              exact ⟨yl, yp, r0, r1, r2⟩
            refine wpAnyH_take (i := 0) (v := ?_) rfl (by kernel_rfl) (by kernel_rfl) (by kernel_rfl) (fun _ _ _ h => h) (Or.inl ⟨by rfl, ?_⟩) (by assumption) ?_
            rotate_left
            · (intro w hSw; (try dsimp only at hSw); (try simp only [List.getElem_toArray, List.getElem_cons_zero, List.getElem_cons_succ]); go_simp; (try with_reducible rfl))
            (try simp only [Act.put, List.setIfInBounds_toArray, List.set_cons_zero, List.set_cons_succ, List.getElem_toArray, List.getElem_cons_zero, List.getElem_cons_succ])
            refine wpAnyH_take (i := 1) (v := ?_) rfl (by kernel_rfl) (by kernel_rfl) (by kernel_rfl) (fun _ _ _ h => h) (Or.inl ⟨by rfl, ?_⟩) (by assumption) ?_
            rotate_left
            · (intro w hSw; (try dsimp only at hSw); (try simp only [List.getElem_toArray, List.getElem_cons_zero, List.getElem_cons_succ]); go_simp; (try with_reducible rfl))
            (try simp only [Act.put, List.setIfInBounds_toArray, List.set_cons_zero, List.set_cons_succ, List.getElem_toArray, List.getElem_cons_zero, List.getElem_cons_succ])
            refine wpAnyH_take (i := 2) (v := ?_) rfl (by kernel_rfl) (by kernel_rfl) (by kernel_rfl) (fun _ _ _ h => h) (Or.inl ⟨by rfl, ?_⟩) (by assumption) ?_
            rotate_left
            · (intro w hSw; (try dsimp only at hSw); (try simp only [List.getElem_toArray, List.getElem_cons_zero, List.getElem_cons_succ]); go_simp; (try with_reducible rfl))
            (try simp only [Act.put, List.setIfInBounds_toArray, List.set_cons_zero, List.set_cons_succ, List.getElem_toArray, List.getElem_cons_zero, List.getElem_cons_succ])
            refine wpAnyH_take (i := 3) (v := ?_) rfl (by kernel_rfl) (by kernel_rfl) (by kernel_rfl) (fun _ _ _ h => h) (Or.inl ⟨by rfl, ?_⟩) (by assumption) ?_
            rotate_left
            · (intro w hSw; (try dsimp only at hSw); (try simp only [List.getElem_toArray, List.getElem_cons_zero, List.getElem_cons_succ]); go_simp; (try with_reducible rfl))
            (try simp only [Act.put, List.setIfInBounds_toArray, List.set_cons_zero, List.set_cons_succ, List.getElem_toArray, List.getElem_cons_zero, List.getElem_cons_succ])
            refine wpAnyH_take (i := 4) (v := ?_) rfl (by kernel_rfl) (by kernel_rfl) (by kernel_rfl) (fun _ _ _ h => h) (Or.inl ⟨by rfl, ?_⟩) (by assumption) ?_
            rotate_left
            · (intro w hSw; (try dsimp only at hSw); (try simp only [List.getElem_toArray, List.getElem_cons_zero, List.getElem_cons_succ]); go_simp; (try with_reducible rfl))
            (try simp only [Act.put, List.setIfInBounds_toArray, List.set_cons_zero, List.set_cons_succ, List.getElem_toArray, List.getElem_cons_zero, List.getElem_cons_succ])
            refine wpAnyH_take (i := 5) (v := ?_) rfl (by kernel_rfl) (by kernel_rfl) (by kernel_rfl) (fun _ _ _ h => h) (Or.inl ⟨by rfl, ?_⟩) (by assumption) ?_
            rotate_left
            · (intro w hSw; (try dsimp only at hSw); (try simp only [List.getElem_toArray, List.getElem_cons_zero, List.getElem_cons_succ]); go_simp; (try with_reducible rfl))
            (try simp only [Act.put, List.setIfInBounds_toArray, List.set_cons_zero, List.set_cons_succ, List.getElem_toArray, List.getElem_cons_zero, List.getElem_cons_succ])
            refine wpAnyH_take (i := 6) (v := ?_) rfl (by kernel_rfl) (by kernel_rfl) (by kernel_rfl) (fun _ _ _ h => h) (Or.inl ⟨by rfl, ?_⟩) (by assumption) ?_
            rotate_left
            · (intro w hSw; (try dsimp only at hSw); (try simp only [List.getElem_toArray, List.getElem_cons_zero, List.getElem_cons_succ]); go_simp; (try with_reducible rfl))
            (try simp only [Act.put, List.setIfInBounds_toArray, List.set_cons_zero, List.set_cons_succ, List.getElem_toArray, List.getElem_cons_zero, List.getElem_cons_succ])
            refine wpAnyH_take (i := 7) (v := ?_) rfl (by kernel_rfl) (by kernel_rfl) (by kernel_rfl) (fun _ _ _ h => h) (Or.inl ⟨by rfl, ?_⟩) (by assumption) ?_
            rotate_left
            · (intro w hSw; (try dsimp only at hSw); (try simp only [List.getElem_toArray, List.getElem_cons_zero, List.getElem_cons_succ]); go_simp; (try with_reducible rfl))
            (try simp only [Act.put, List.setIfInBounds_toArray, List.set_cons_zero, List.set_cons_succ, List.getElem_toArray, List.getElem_cons_zero, List.getElem_cons_succ])
            refine wpAnyH_take (i := 8) (v := ?_) rfl (by kernel_rfl) (by kernel_rfl) (by kernel_rfl) (fun _ _ _ h => h) (Or.inl ⟨by rfl, ?_⟩) (by assumption) ?_
            rotate_left
            · (intro w hSw; (try dsimp only at hSw); (try simp only [List.getElem_toArray, List.getElem_cons_zero, List.getElem_cons_succ]); go_simp; (try with_reducible rfl))
            (try simp only [Act.put, List.setIfInBounds_toArray, List.set_cons_zero, List.set_cons_succ, List.getElem_toArray, List.getElem_cons_zero, List.getElem_cons_succ])
            refine wpAnyH_take (i := 9) (v := ?_) rfl (by kernel_rfl) (by kernel_rfl) (by kernel_rfl) (fun _ _ _ h => h) (Or.inl ⟨by rfl, ?_⟩) (by assumption) ?_
            rotate_left
            · (intro w hSw; (try dsimp only at hSw); (try simp only [List.getElem_toArray, List.getElem_cons_zero, List.getElem_cons_succ]); go_simp; (try with_reducible rfl))
            (try simp only [Act.put, List.setIfInBounds_toArray, List.set_cons_zero, List.set_cons_succ, List.getElem_toArray, List.getElem_cons_zero, List.getElem_cons_succ])
            refine wpAnyH_take (i := 12) (v := ?_) rfl (by kernel_rfl) (by kernel_rfl) (by kernel_rfl) (fun _ _ _ h => h) (Or.inl ⟨by rfl, ?_⟩) (by assumption) ?_
            rotate_left
            · (intro w hSw; (try dsimp only at hSw); (try simp only [List.getElem_toArray, List.getElem_cons_zero, List.getElem_cons_succ]); go_simp; (try with_reducible rfl))
            (try simp only [Act.put, List.setIfInBounds_toArray, List.set_cons_zero, List.set_cons_succ, List.getElem_toArray, List.getElem_cons_zero, List.getElem_cons_succ])
            refine wpAnyH_take (i := 13) (v := ?_) rfl (by kernel_rfl) (by kernel_rfl) (by kernel_rfl) (fun _ _ _ h => h) (Or.inl ⟨by rfl, ?_⟩) (by assumption) ?_
            rotate_left
            · (intro w hSw; (try dsimp only at hSw); (try simp only [List.getElem_toArray, List.getElem_cons_zero, List.getElem_cons_succ]); go_simp; (try with_reducible rfl))
            (try simp only [Act.put, List.setIfInBounds_toArray, List.set_cons_zero, List.set_cons_succ, List.getElem_toArray, List.getElem_cons_zero, List.getElem_cons_succ])
            refine wpAnyH_take (i := 14) (v := ?_) rfl (by kernel_rfl) (by kernel_rfl) (by kernel_rfl) (fun _ _ _ h => h) (Or.inl ⟨by rfl, ?_⟩) (by assumption) ?_
            rotate_left
            · (intro w hSw; (try dsimp only at hSw); (try simp only [List.getElem_toArray, List.getElem_cons_zero, List.getElem_cons_succ]); go_simp; (try with_reducible rfl))
            (try simp only [Act.put, List.setIfInBounds_toArray, List.set_cons_zero, List.set_cons_succ, List.getElem_toArray, List.getElem_cons_zero, List.getElem_cons_succ])
            refine wpAnyH_take (i := 15) (v := ?_) rfl (by kernel_rfl) (by kernel_rfl) (by kernel_rfl) (fun _ _ _ h => h) (Or.inl ⟨by rfl, ?_⟩) (by assumption) ?_
            rotate_left
            · (intro w hSw; (try dsimp only at hSw); (try simp only [List.getElem_toArray, List.getElem_cons_zero, List.getElem_cons_succ]); go_simp; (try with_reducible rfl))
            (try simp only [Act.put, List.setIfInBounds_toArray, List.set_cons_zero, List.set_cons_succ, List.getElem_toArray, List.getElem_cons_zero, List.getElem_cons_succ])
            refine wpAnyH_take (i := 16) (v := ?_) rfl (by kernel_rfl) (by kernel_rfl) (by kernel_rfl) (fun _ _ _ h => h) (Or.inl ⟨by rfl, ?_⟩) (by assumption) ?_
            rotate_left
            · (intro w hSw; (try dsimp only at hSw); (try simp only [List.getElem_toArray, List.getElem_cons_zero, List.getElem_cons_succ]); go_simp; (try with_reducible rfl))
            (try simp only [Act.put, List.setIfInBounds_toArray, List.set_cons_zero, List.set_cons_succ, List.getElem_toArray, List.getElem_cons_zero, List.getElem_cons_succ])
            refine wpAnyH_take (i := 17) (v := ?_) rfl (by kernel_rfl) (by kernel_rfl) (by kernel_rfl) (fun _ _ _ h => h) (Or.inl ⟨by rfl, ?_⟩) (by assumption) ?_
            rotate_left
            · (intro w hSw; (try dsimp only at hSw); (try simp only [List.getElem_toArray, List.getElem_cons_zero, List.getElem_cons_succ]); go_simp; (try with_reducible rfl))
            (try simp only [Act.put, List.setIfInBounds_toArray, List.set_cons_zero, List.set_cons_succ, List.getElem_toArray, List.getElem_cons_zero, List.getElem_cons_succ])
            refine wpAnyH_ready (rs := [10, 18]) (by kernel_rfl) (by simp) ?_
            refine AllReadyH.cons (i := 10) rfl (fun K hK => ?_) (AllReadyH.cons (i := 18) rfl (fun K hK => ?_) AllReadyH.nil)
            · (try dsimp only [List.getElem_toArray, List.getElem_cons_zero, List.getElem_cons_succ])
              go_simp
              refine (c1 _).mono ?_
              rintro e w1 ⟨rfl, hw1⟩
              go_wp2_with (fail)
              refine hK.out _ _ ?_ (fun hHeld => ?_)
              · (try dsimp only)
                first | exact ⟨held_below (W := A) (by repeat (first | (with_reducible exact Below.refl _ _) | (with_reducible refine Below.setCell ?_ ?_ _) | (with_reducible refine Below.drew ?_) | (with_reducible refine Below.alloc ?_ ?_ _) | (with_reducible refine Below.trans ?_ (Below.mono hw1 ?_)) | (with_reducible exact hw1.size) | omega | (simp <;> omega) | (simp <;> (have s := hw1.size; omega)) | (have s0 := hw1.size; (try simp at s0); (try simp); omega))) yl, held_below (W := A) (by repeat (first | (with_reducible exact Below.refl _ _) | (with_reducible refine Below.setCell ?_ ?_ _) | (with_reducible refine Below.drew ?_) | (with_reducible refine Below.alloc ?_ ?_ _) | (with_reducible refine Below.trans ?_ (Below.mono hw1 ?_)) | (with_reducible exact hw1.size) | omega | (simp <;> omega) | (simp <;> (have s := hw1.size; omega)) | (have s0 := hw1.size; (try simp at s0); (try simp); omega))) yp, held_below (W := A) (by repeat (first | (with_reducible exact Below.refl _ _) | (with_reducible refine Below.setCell ?_ ?_ _) | (with_reducible refine Below.drew ?_) | (with_reducible refine Below.alloc ?_ ?_ _) | (with_reducible refine Below.trans ?_ (Below.mono hw1 ?_)) | (with_reducible exact hw1.size) | omega | (simp <;> omega) | (simp <;> (have s := hw1.size; omega)) | (have s0 := hw1.size; (try simp at s0); (try simp); omega))) r0, held_below (W := A) (by repeat (first | (with_reducible exact Below.refl _ _) | (with_reducible refine Below.setCell ?_ ?_ _) | (with_reducible refine Below.drew ?_) | (with_reducible refine Below.alloc ?_ ?_ _) | (with_reducible refine Below.trans ?_ (Below.mono hw1 ?_)) | (with_reducible exact hw1.size) | omega | (simp <;> omega) | (simp <;> (have s := hw1.size; omega)) | (have s0 := hw1.size; (try simp at s0); (try simp); omega))) r1, held_below (W := A) (by repeat (first | (with_reducible exact Below.refl _ _) | (with_reducible refine Below.setCell ?_ ?_ _) | (with_reducible refine Below.drew ?_) | (with_reducible refine Below.alloc ?_ ?_ _) | (with_reducible refine Below.trans ?_ (Below.mono hw1 ?_)) | (with_reducible exact hw1.size) | omega | (simp <;> omega) | (simp <;> (have s := hw1.size; omega)) | (have s0 := hw1.size; (try simp at s0); (try simp); omega))) r2⟩ | go_keep
              clear hK K
              (try simp only [Act.put, List.setIfInBounds_toArray, List.set_cons_zero, List.set_cons_succ])
              refine wpAnyH_ready (rs := [11, 18]) (by kernel_rfl) (by simp) ?_
              refine AllReadyH.cons (i := 11) rfl (fun K hK => ?_) (AllReadyH.cons (i := 18) rfl (fun K hK => ?_) AllReadyH.nil)
              · (try dsimp only [List.getElem_toArray, List.getElem_cons_zero, List.getElem_cons_succ])
                go_simp
                refine (c2 _).mono ?_
                rintro e w2 ⟨rfl, hw2⟩
                go_wp2_with (fail)
                refine hK.out _ _ ?_ (fun hHeld => ?_)
                · (try dsimp only)
                  first | exact ⟨held_below (W := A) (by repeat (first | (with_reducible exact Below.refl _ _) | (with_reducible refine Below.setCell ?_ ?_ _) | (with_reducible refine Below.drew ?_) | (with_reducible refine Below.alloc ?_ ?_ _) | (with_reducible refine Below.trans ?_ (Below.mono hw2 ?_)) | (with_reducible refine Below.trans ?_ (Below.mono hw1 ?_)) | (with_reducible exact hw2.size) | (with_reducible exact hw1.size) | omega | (simp <;> omega) | (simp <;> (have s := hw2.size; omega)) | (simp <;> (have s := hw1.size; omega)) | (have s0 := hw2.size; (try simp at s0); have s1 := hw1.size; (try simp at s1); (try simp); omega))) yl, held_below (W := A) (by repeat (first | (with_reducible exact Below.refl _ _) | (with_reducible refine Below.setCell ?_ ?_ _) | (with_reducible refine Below.drew ?_) | (with_reducible refine Below.alloc ?_ ?_ _) | (with_reducible refine Below.trans ?_ (Below.mono hw2 ?_)) | (with_reducible refine Below.trans ?_ (Below.mono hw1 ?_)) | (with_reducible exact hw2.size) | (with_reducible exact hw1.size) | omega | (simp <;> omega) | (simp <;> (have s := hw2.size; omega)) | (simp <;> (have s := hw1.size; omega)) | (have s0 := hw2.size; (try simp at s0); have s1 := hw1.size; (try simp at s1); (try simp); omega))) yp, held_below (W := A) (by repeat (first | (with_reducible exact Below.refl _ _) | (with_reducible refine Below.setCell ?_ ?_ _) | (with_reducible refine Below.drew ?_) | (with_reducible refine Below.alloc ?_ ?_ _) | (with_reducible refine Below.trans ?_ (Below.mono hw2 ?_)) | (with_reducible refine Below.trans ?_ (Below.mono hw1 ?_)) | (with_reducible exact hw2.size) | (with_reducible exact hw1.size) | omega | (simp <;> omega) | (simp <;> (have s := hw2.size; omega)) | (simp <;> (have s := hw1.size; omega)) | (have s0 := hw2.size; (try simp at s0); have s1 := hw1.size; (try simp at s1); (try simp); omega))) r0, held_below (W := A) (by repeat (first | (with_reducible exact Below.refl _ _) | (with_reducible refine Below.setCell ?_ ?_ _) | (with_reducible refine Below.drew ?_) | (with_reducible refine Below.alloc ?_ ?_ _) | (with_reducible refine Below.trans ?_ (Below.mono hw2 ?_)) | (with_reducible refine Below.trans ?_ (Below.mono hw1 ?_)) | (with_reducible exact hw2.size) | (with_reducible exact hw1.size) | omega | (simp <;> omega) | (simp <;> (have s := hw2.size; omega)) | (simp <;> (have s := hw1.size; omega)) | (have s0 := hw2.size; (try simp at s0); have s1 := hw1.size; (try simp at s1); (try simp); omega))) r1, held_below (W := A) (by repeat (first | (with_reducible exact Below.refl _ _) | (with_reducible refine Below.setCell ?_ ?_ _) | (with_reducible refine Below.drew ?_) | (with_reducible refine Below.alloc ?_ ?_ _) | (with_reducible refine Below.trans ?_ (Below.mono hw2 ?_)) | (with_reducible refine Below.trans ?_ (Below.mono hw1 ?_)) | (with_reducible exact hw2.size) | (with_reducible exact hw1.size) | omega | (simp <;> omega) | (simp <;> (have s := hw2.size; omega)) | (simp <;> (have s := hw1.size; omega)) | (have s0 := hw2.size; (try simp at s0); have s1 := hw1.size; (try simp at s1); (try simp); omega))) r2⟩ | go_keep
                clear hK K
                (try simp only [Act.put, List.setIfInBounds_toArray, List.set_cons_zero, List.set_cons_succ])
                refine wpAnyH_ready (rs := [18]) (by kernel_rfl) (by simp) ?_
                refine AllReadyH.cons (i := 18) rfl (fun K hK => ?_) AllReadyH.nil
                (try dsimp only [List.getElem_toArray, List.getElem_cons_zero, List.getElem_cons_succ])
                have zk : w2.cell? ⟨gl, j, none⟩ = some (.int .i64 (nm y)) := held_below (W := A) (by repeat (first | (with_reducible exact Below.refl _ _) | (with_reducible refine Below.setCell ?_ ?_ _) | (with_reducible refine Below.drew ?_) | (with_reducible refine Below.alloc ?_ ?_ _) | (with_reducible refine Below.trans ?_ (Below.mono hw2 ?_)) | (with_reducible refine Below.trans ?_ (Below.mono hw1 ?_)) | (with_reducible exact hw2.size) | (with_reducible exact hw1.size) | omega | (simp <;> omega) | (simp <;> (have s := hw2.size; omega)) | (simp <;> (have s := hw1.size; omega)) | (have s0 := hw2.size; (try simp at s0); have s1 := hw1.size; (try simp at s1); (try simp); omega))) yk
                go_simp
                refine hK.out _ _ ?_ (fun hHeld => ?_)
                · (try dsimp only)
                  first | exact ⟨held_below (W := A) (by repeat (first | (with_reducible exact Below.refl _ _) | (with_reducible refine Below.setCell ?_ ?_ _) | (with_reducible refine Below.drew ?_) | (with_reducible refine Below.alloc ?_ ?_ _) | (with_reducible refine Below.trans ?_ (Below.mono hw2 ?_)) | (with_reducible refine Below.trans ?_ (Below.mono hw1 ?_)) | (with_reducible exact hw2.size) | (with_reducible exact hw1.size) | omega | (simp <;> omega) | (simp <;> (have s := hw2.size; omega)) | (simp <;> (have s := hw1.size; omega)) | (have s0 := hw2.size; (try simp at s0); have s1 := hw1.size; (try simp at s1); (try simp); omega))) yl, held_below (W := A) (by repeat (first | (with_reducible exact Below.refl _ _) | (with_reducible refine Below.setCell ?_ ?_ _) | (with_reducible refine Below.drew ?_) | (with_reducible refine Below.alloc ?_ ?_ _) | (with_reducible refine Below.trans ?_ (Below.mono hw2 ?_)) | (with_reducible refine Below.trans ?_ (Below.mono hw1 ?_)) | (with_reducible exact hw2.size) | (with_reducible exact hw1.size) | omega | (simp <;> omega) | (simp <;> (have s := hw2.size; omega)) | (simp <;> (have s := hw1.size; omega)) | (have s0 := hw2.size; (try simp at s0); have s1 := hw1.size; (try simp at s1); (try simp); omega))) yp, held_below (W := A) (by repeat (first | (with_reducible exact Below.refl _ _) | (with_reducible refine Below.setCell ?_ ?_ _) | (with_reducible refine Below.drew ?_) | (with_reducible refine Below.alloc ?_ ?_ _) | (with_reducible refine Below.trans ?_ (Below.mono hw2 ?_)) | (with_reducible refine Below.trans ?_ (Below.mono hw1 ?_)) | (with_reducible exact hw2.size) | (with_reducible exact hw1.size) | omega | (simp <;> omega) | (simp <;> (have s := hw2.size; omega)) | (simp <;> (have s := hw1.size; omega)) | (have s0 := hw2.size; (try simp at s0); have s1 := hw1.size; (try simp at s1); (try simp); omega))) r0, held_below (W := A) (by repeat (first | (with_reducible exact Below.refl _ _) | (with_reducible refine Below.setCell ?_ ?_ _) | (with_reducible refine Below.drew ?_) | (with_reducible refine Below.alloc ?_ ?_ _) | (with_reducible refine Below.trans ?_ (Below.mono hw2 ?_)) | (with_reducible refine Below.trans ?_ (Below.mono hw1 ?_)) | (with_reducible exact hw2.size) | (with_reducible exact hw1.size) | omega | (simp <;> omega) | (simp <;> (have s := hw2.size; omega)) | (simp <;> (have s := hw1.size; omega)) | (have s0 := hw2.size; (try simp at s0); have s1 := hw1.size; (try simp at s1); (try simp); omega))) r1, held_below (W := A) (by repeat (first | (with_reducible exact Below.refl _ _) | (with_reducible refine Below.setCell ?_ ?_ _) | (with_reducible refine Below.drew ?_) | (with_reducible refine Below.alloc ?_ ?_ _) | (with_reducible refine Below.trans ?_ (Below.mono hw2 ?_)) | (with_reducible refine Below.trans ?_ (Below.mono hw1 ?_)) | (with_reducible exact hw2.size) | (with_reducible exact hw1.size) | omega | (simp <;> omega) | (simp <;> (have s := hw2.size; omega)) | (simp <;> (have s := hw1.size; omega)) | (have s0 := hw2.size; (try simp at s0); have s1 := hw1.size; (try simp at s1); (try simp); omega))) r2⟩ | go_keep
                clear hK K
                (try simp only [Act.put, List.setIfInBounds_toArray, List.set_cons_zero, List.set_cons_succ])
                refine wpAnyH_ready (rs := [19]) (by kernel_rfl) (by simp) ?_
                refine AllReadyH.cons (i := 19) rfl (fun K hK => ?_) AllReadyH.nil
                (try dsimp only [List.getElem_toArray, List.getElem_cons_zero, List.getElem_cons_succ])
                go_simp
                have bw : Below A.heap.size A w2 := by repeat (first | (with_reducible exact Below.refl _ _) | (with_reducible refine Below.setCell ?_ ?_ _) | (with_reducible refine Below.drew ?_) | (with_reducible refine Below.alloc ?_ ?_ _) | (with_reducible refine Below.trans ?_ (Below.mono hw2 ?_)) | (with_reducible refine Below.trans ?_ (Below.mono hw1 ?_)) | (with_reducible exact hw2.size) | (with_reducible exact hw1.size) | omega | (simp <;> omega) | (simp <;> (have s := hw2.size; omega)) | (simp <;> (have s := hw1.size; omega)) | (have s0 := hw2.size; (try simp at s0); have s1 := hw1.size; (try simp at s1); (try simp); omega))
                refine (c3 _ (HCA.out.pr.later bw)).mono ?_
                rintro e w3 ⟨rfl, hg3, hp3⟩
                have s0 := hg3.cell (held_below (W := A) bw yl) (by simp; exact hd3)
                have s1 := hg3.cell (held_below (W := A) bw yp) (by simp; exact hd3)
                have s2 := hg3.cell (held_below (W := A) bw r0) (by simp; exact hRg)
                have s3 := hg3.cell (held_below (W := A) bw r1) (by simp; exact hRg)
                have s4 := hg3.cell (held_below (W := A) bw r2) (by simp; exact hRg)
                have s5 := hg3.cell (held_below (W := A) bw yk) (by simp; exact hd1)
                have sf : ∀ i, w3.frozen? ⟨gl, i, none⟩ = false := fun i => (World.frozen?_of_block (a := ⟨gl, i, none⟩) (hg3.block gl (Nat.lt_of_lt_of_le lA bw.size) (by simp; exact hd1))).trans ((bw.frozen (p := ⟨gl, i, none⟩) lA).trans (fA i))
                have sl : gl < w3.heap.size := World.block_lt_of_cell? w3 _ s5
                go_wp2_with (fail)
                refine hK.out _ _ ?_ (fun hHeld => ?_)
                · exact ⟨s0, s1, s2, s3, s4⟩
                clear hK K
                (try simp only [Act.put, List.setIfInBounds_toArray, List.set_cons_zero, List.set_cons_succ])
                refine wpAnyH_take (i := 20) (v := ?_) rfl (by kernel_rfl) (by kernel_rfl) (by kernel_rfl) (fun _ _ _ h => h) (Or.inl ⟨by rfl, ?_⟩) (by assumption) ?_
                rotate_left
                · (intro w hSw; (try dsimp only at hSw); (try simp only [List.getElem_toArray, List.getElem_cons_zero, List.getElem_cons_succ]); go_simp; (try with_reducible rfl))
                (try simp only [Act.put, List.setIfInBounds_toArray, List.set_cons_zero, List.set_cons_succ, List.getElem_toArray, List.getElem_cons_zero, List.getElem_cons_succ])
                refine wpAnyH_ready (rs := [21]) (by kernel_rfl) (by simp) ?_
                refine AllReadyH.cons (i := 21) rfl (fun K hK => ?_) AllReadyH.nil
                (try dsimp only [List.getElem_toArray, List.getElem_cons_zero, List.getElem_cons_succ])
                go_simp
                refine hK.out _ _ ?_ (fun hHeld => ?_)
                · (try dsimp only)
                  exact ⟨(World.cell?_setCell_other _ _ _ _ (by simp <;> omega)).trans s0, (World.cell?_setCell_other _ _ _ _ (by simp <;> omega)).trans s1, (World.cell?_setCell_other _ _ _ _ (by simp <;> omega)).trans s2, (World.cell?_setCell_other _ _ _ _ (by simp <;> omega)).trans s3, (World.cell?_setCell_other _ _ _ _ (by simp <;> omega)).trans s4⟩
                clear hK K
                (try simp only [Act.put, List.setIfInBounds_toArray, List.set_cons_zero, List.set_cons_succ])
                refine wpAnyH_done (by kernel_rfl) ?_ _
                refine NoPanic.normal ?_
                have C3 := (HCA.out.later bw).touch hg3 hp3
                have C4 := C3.link j HPL.out v
                rw [HM0.out] at C4
                have Gp := grown_setCell w3 ⟨gl, j, none⟩ (.int .i64 (nm v))
                have M4 := ((MA.out.later bw).far hg3 (by simp; exact hd3) (by simp; exact he1)).far Gp (by simp; exact hd5) (by simp; exact he2)
                have Q4 : Hid (∀ (i : Nat) (x : Bool), P[i]? = some x → (w3.setCell ⟨gl, j, none⟩ (.int .i64 (nm v))).cell? ⟨pb, i, none⟩ = some (pv x)) := Lib.hid (fun i x hx => Gp.cell (hg3.cell (held_below (W := A) bw (QA.out i x hx)) (by simp; exact n2)) (by simp; exact n1))
                have hmA : m ≤ A.heap.size := Nat.le_of_lt (Nat.lt_of_le_of_lt HCA.out.mb HCA.out.lb)
                have b3 := (HBA.out.trans (bw.mono hmA)).grown hg3 (Nat.le_trans hmA bw.size) (fun i hi => by simp at hi; omega)
                have b4 := Lib.hid (b3.setCell (p := ⟨gl, j, none⟩) hml (.int .i64 (nm v)))
                have HC4 := Lib.hid C4
                have HM4 := Lib.hid M4
                clear C3 C4 Gp M4 hg3 hp3 b3 hHeld s0 s1 s2 s3 s4 s5 sf sl zk yl yp yk r0 r1 r2
                go_wp2
                exact ⟨⟨j + 1, by omega, by go_num, HC4, HM4, Q4, b4.out⟩, by simp [intOf]; omega⟩
              · (try dsimp only [List.getElem_toArray, List.getElem_cons_zero, List.getElem_cons_succ])
                have zk : w1.cell? ⟨gl, j, none⟩ = some (.int .i64 (nm y)) := held_below (W := A) (by repeat (first | (with_reducible exact Below.refl _ _) | (with_reducible refine Below.setCell ?_ ?_ _) | (with_reducible refine Below.drew ?_) | (with_reducible refine Below.alloc ?_ ?_ _) | (with_reducible refine Below.trans ?_ (Below.mono hw1 ?_)) | (with_reducible exact hw1.size) | omega | (simp <;> omega) | (simp <;> (have s := hw1.size; omega)) | (have s0 := hw1.size; (try simp at s0); (try simp); omega))) yk
                go_simp
                refine hK.out _ _ ?_ (fun hHeld => ?_)
                · (try dsimp only)
                  first | exact ⟨held_below (W := A) (by repeat (first | (with_reducible exact Below.refl _ _) | (with_reducible refine Below.setCell ?_ ?_ _) | (with_reducible refine Below.drew ?_) | (with_reducible refine Below.alloc ?_ ?_ _) | (with_reducible refine Below.trans ?_ (Below.mono hw1 ?_)) | (with_reducible exact hw1.size) | omega | (simp <;> omega) | (simp <;> (have s := hw1.size; omega)) | (have s0 := hw1.size; (try simp at s0); (try simp); omega))) yl, held_below (W := A) (by repeat (first | (with_reducible exact Below.refl _ _) | (with_reducible refine Below.setCell ?_ ?_ _) | (with_reducible refine Below.drew ?_) | (with_reducible refine Below.alloc ?_ ?_ _) | (with_reducible refine Below.trans ?_ (Below.mono hw1 ?_)) | (with_reducible exact hw1.size) | omega | (simp <;> omega) | (simp <;> (have s := hw1.size; omega)) | (have s0 := hw1.size; (try simp at s0); (try simp); omega))) yp, held_below (W := A) (by repeat (first | (with_reducible exact Below.refl _ _) | (with_reducible refine Below.setCell ?_ ?_ _) | (with_reducible refine Below.drew ?_) | (with_reducible refine Below.alloc ?_ ?_ _) | (with_reducible refine Below.trans ?_ (Below.mono hw1 ?_)) | (with_reducible exact hw1.size) | omega | (simp <;> omega) | (simp <;> (have s := hw1.size; omega)) | (have s0 := hw1.size; (try simp at s0); (try simp); omega))) r0, held_below (W := A) (by repeat (first | (with_reducible exact Below.refl _ _) | (with_reducible refine Below.setCell ?_ ?_ _) | (with_reducible refine Below.drew ?_) | (with_reducible refine Below.alloc ?_ ?_ _) | (with_reducible refine Below.trans ?_ (Below.mono hw1 ?_)) | (with_reducible exact hw1.size) | omega | (simp <;> omega) | (simp <;> (have s := hw1.size; omega)) | (have s0 := hw1.size; (try simp at s0); (try simp); omega))) r1, held_below (W := A) (by repeat (first | (with_reducible exact Below.refl _ _) | (with_reducible refine Below.setCell ?_ ?_ _) | (with_reducible refine Below.drew ?_) | (with_reducible refine Below.alloc ?_ ?_ _) | (with_reducible refine Below.trans ?_ (Below.mono hw1 ?_)) | (with_reducible exact hw1.size) | omega | (simp <;> omega) | (simp <;> (have s := hw1.size; omega)) | (have s0 := hw1.size; (try simp at s0); (try simp); omega))) r2⟩ | go_keep
                clear hK K
                (try simp only [Act.put, List.setIfInBounds_toArray, List.set_cons_zero, List.set_cons_succ])
                refine wpAnyH_ready (rs := [11]) (by kernel_rfl) (by simp) ?_
                refine AllReadyH.cons (i := 11) rfl (fun K hK => ?_) AllReadyH.nil
                (try dsimp only [List.getElem_toArray, List.getElem_cons_zero, List.getElem_cons_succ])
                go_simp
                refine (c2 _).mono ?_
                rintro e w2 ⟨rfl, hw2⟩
                go_wp2_with (fail)
                refine hK.out _ _ ?_ (fun hHeld => ?_)
                · (try dsimp only)
                  first | exact ⟨held_below (W := A) (by repeat (first | (with_reducible exact Below.refl _ _) | (with_reducible refine Below.setCell ?_ ?_ _) | (with_reducible refine Below.drew ?_) | (with_reducible refine Below.alloc ?_ ?_ _) | (with_reducible refine Below.trans ?_ (Below.mono hw2 ?_)) | (with_reducible refine Below.trans ?_ (Below.mono hw1 ?_)) | (with_reducible exact hw2.size) | (with_reducible exact hw1.size) | omega | (simp <;> omega) | (simp <;> (have s := hw2.size; omega)) | (simp <;> (have s := hw1.size; omega)) | (have s0 := hw2.size; (try simp at s0); have s1 := hw1.size; (try simp at s1); (try simp); omega))) yl, held_below (W := A) (by repeat (first | (with_reducible exact Below.refl _ _) | (with_reducible refine Below.setCell ?_ ?_ _) | (with_reducible refine Below.drew ?_) | (with_reducible refine Below.alloc ?_ ?_ _) | (with_reducible refine Below.trans ?_ (Below.mono hw2 ?_)) | (with_reducible refine Below.trans ?_ (Below.mono hw1 ?_)) | (with_reducible exact hw2.size) | (with_reducible exact hw1.size) | omega | (simp <;> omega) | (simp <;> (have s := hw2.size; omega)) | (simp <;> (have s := hw1.size; omega)) | (have s0 := hw2.size; (try simp at s0); have s1 := hw1.size; (try simp at s1); (try simp); omega))) yp, held_below (W := A) (by repeat (first | (with_reducible exact Below.refl _ _) | (with_reducible refine Below.setCell ?_ ?_ _) | (with_reducible refine Below.drew ?_) | (with_reducible refine Below.alloc ?_ ?_ _) | (with_reducible refine Below.trans ?_ (Below.mono hw2 ?_)) | (with_reducible refine Below.trans ?_ (Below.mono hw1 ?_)) | (with_reducible exact hw2.size) | (with_reducible exact hw1.size) | omega | (simp <;> omega) | (simp <;> (have s := hw2.size; omega)) | (simp <;> (have s := hw1.size; omega)) | (have s0 := hw2.size; (try simp at s0); have s1 := hw1.size; (try simp at s1); (try simp); omega))) r0, held_below (W := A) (by repeat (first | (with_reducible exact Below.refl _ _) | (with_reducible refine Below.setCell ?_ ?_ _) | (with_reducible refine Below.drew ?_) | (with_reducible refine Below.alloc ?_ ?_ _) | (with_reducible refine Below.trans ?_ (Below.mono hw2 ?_)) | (with_reducible refine Below.trans ?_ (Below.mono hw1 ?_)) | (with_reducible exact hw2.size) | (with_reducible exact hw1.size) | omega | (simp <;> omega) | (simp <;> (have s := hw2.size; omega)) | (simp <;> (have s := hw1.size; omega)) | (have s0 := hw2.size; (try simp at s0); have s1 := hw1.size; (try simp at s1); (try simp); omega))) r1, held_below (W := A) (by repeat (first | (with_reducible exact Below.refl _ _) | (with_reducible refine Below.setCell ?_ ?_ _) | (with_reducible refine Below.drew ?_) | (with_reducible refine Below.alloc ?_ ?_ _) | (with_reducible refine Below.trans ?_ (Below.mono hw2 ?_)) | (with_reducible refine Below.trans ?_ (Below.mono hw1 ?_)) | (with_reducible exact hw2.size) | (with_reducible exact hw1.size) | omega | (simp <;> omega) | (simp <;> (have s := hw2.size; omega)) | (simp <;> (have s := hw1.size; omega)) | (have s0 := hw2.size; (try simp at s0); have s1 := hw1.size; (try simp at s1); (try simp); omega))) r2⟩ | go_keep
                clear hK K
                (try simp only [Act.put, List.setIfInBounds_toArray, List.set_cons_zero, List.set_cons_succ])
                refine wpAnyH_ready (rs := [19]) (by kernel_rfl) (by simp) ?_
                refine AllReadyH.cons (i := 19) rfl (fun K hK => ?_) AllReadyH.nil
                (try dsimp only [List.getElem_toArray, List.getElem_cons_zero, List.getElem_cons_succ])
                go_simp
                have bw : Below A.heap.size A w2 := by repeat (first | (with_reducible exact Below.refl _ _) | (with_reducible refine Below.setCell ?_ ?_ _) | (with_reducible refine Below.drew ?_) | (with_reducible refine Below.alloc ?_ ?_ _) | (with_reducible refine Below.trans ?_ (Below.mono hw2 ?_)) | (with_reducible refine Below.trans ?_ (Below.mono hw1 ?_)) | (with_reducible exact hw2.size) | (with_reducible exact hw1.size) | omega | (simp <;> omega) | (simp <;> (have s := hw2.size; omega)) | (simp <;> (have s := hw1.size; omega)) | (have s0 := hw2.size; (try simp at s0); have s1 := hw1.size; (try simp at s1); (try simp); omega))
                refine (c3 _ (HCA.out.pr.later bw)).mono ?_
                rintro e w3 ⟨rfl, hg3, hp3⟩
                have s0 := hg3.cell (held_below (W := A) bw yl) (by simp; exact hd3)
                have s1 := hg3.cell (held_below (W := A) bw yp) (by simp; exact hd3)
                have s2 := hg3.cell (held_below (W := A) bw r0) (by simp; exact hRg)
                have s3 := hg3.cell (held_below (W := A) bw r1) (by simp; exact hRg)
                have s4 := hg3.cell (held_below (W := A) bw r2) (by simp; exact hRg)
                have s5 := hg3.cell (held_below (W := A) bw yk) (by simp; exact hd1)
                have sf : ∀ i, w3.frozen? ⟨gl, i, none⟩ = false := fun i => (World.frozen?_of_block (a := ⟨gl, i, none⟩) (hg3.block gl (Nat.lt_of_lt_of_le lA bw.size) (by simp; exact hd1))).trans ((bw.frozen (p := ⟨gl, i, none⟩) lA).trans (fA i))
                have sl : gl < w3.heap.size := World.block_lt_of_cell? w3 _ s5
                go_wp2_with (fail)
                refine hK.out _ _ ?_ (fun hHeld => ?_)
                · exact ⟨s0, s1, s2, s3, s4⟩
                clear hK K
                (try simp only [Act.put, List.setIfInBounds_toArray, List.set_cons_zero, List.set_cons_succ])
                refine wpAnyH_take (i := 20) (v := ?_) rfl (by kernel_rfl) (by kernel_rfl) (by kernel_rfl) (fun _ _ _ h => h) (Or.inl ⟨by rfl, ?_⟩) (by assumption) ?_
                rotate_left
                · (intro w hSw; (try dsimp only at hSw); (try simp only [List.getElem_toArray, List.getElem_cons_zero, List.getElem_cons_succ]); go_simp; (try with_reducible rfl))
                (try simp only [Act.put, List.setIfInBounds_toArray, List.set_cons_zero, List.set_cons_succ, List.getElem_toArray, List.getElem_cons_zero, List.getElem_cons_succ])
                refine wpAnyH_ready (rs := [21]) (by kernel_rfl) (by simp) ?_
                refine AllReadyH.cons (i := 21) rfl (fun K hK => ?_) AllReadyH.nil
                (try dsimp only [List.getElem_toArray, List.getElem_cons_zero, List.getElem_cons_succ])
                go_simp
                refine hK.out _ _ ?_ (fun hHeld => ?_)
                · (try dsimp only)
                  exact ⟨(World.cell?_setCell_other _ _ _ _ (by simp <;> omega)).trans s0, (World.cell?_setCell_other _ _ _ _ (by simp <;> omega)).trans s1, (World.cell?_setCell_other _ _ _ _ (by simp <;> omega)).trans s2, (World.cell?_setCell_other _ _ _ _ (by simp <;> omega)).trans s3, (World.cell?_setCell_other _ _ _ _ (by simp <;> omega)).trans s4⟩
                clear hK K
                (try simp only [Act.put, List.setIfInBounds_toArray, List.set_cons_zero, List.set_cons_succ])
                refine wpAnyH_done (by kernel_rfl) ?_ _
                refine NoPanic.normal ?_
                have C3 := (HCA.out.later bw).touch hg3 hp3
                have C4 := C3.link j HPL.out v
                rw [HM0.out] at C4
                have Gp := grown_setCell w3 ⟨gl, j, none⟩ (.int .i64 (nm v))
                have M4 := ((MA.out.later bw).far hg3 (by simp; exact hd3) (by simp; exact he1)).far Gp (by simp; exact hd5) (by simp; exact he2)
                have Q4 : Hid (∀ (i : Nat) (x : Bool), P[i]? = some x → (w3.setCell ⟨gl, j, none⟩ (.int .i64 (nm v))).cell? ⟨pb, i, none⟩ = some (pv x)) := Lib.hid (fun i x hx => Gp.cell (hg3.cell (held_below (W := A) bw (QA.out i x hx)) (by simp; exact n2)) (by simp; exact n1))
                have hmA : m ≤ A.heap.size := Nat.le_of_lt (Nat.lt_of_le_of_lt HCA.out.mb HCA.out.lb)
                have b3 := (HBA.out.trans (bw.mono hmA)).grown hg3 (Nat.le_trans hmA bw.size) (fun i hi => by simp at hi; omega)
                have b4 := Lib.hid (b3.setCell (p := ⟨gl, j, none⟩) hml (.int .i64 (nm v)))
                have HC4 := Lib.hid C4
                have HM4 := Lib.hid M4
                clear C3 C4 Gp M4 hg3 hp3 b3 hHeld s0 s1 s2 s3 s4 s5 sf sl zk yl yp yk r0 r1 r2
                go_wp2
                exact ⟨⟨j + 1, by omega, by go_num, HC4, HM4, Q4, b4.out⟩, by simp [intOf]; omega⟩
            · (try dsimp only [List.getElem_toArray, List.getElem_cons_zero, List.getElem_cons_succ])
              have zk : A.drew.cell? ⟨gl, j, none⟩ = some (.int .i64 (nm y)) := held_below (W := A) (by repeat (first | (with_reducible exact Below.refl _ _) | (with_reducible refine Below.setCell ?_ ?_ _) | (with_reducible refine Below.drew ?_) | (with_reducible refine Below.alloc ?_ ?_ _) | omega | (simp <;> omega))) yk
              go_simp
              refine hK.out _ _ ?_ (fun hHeld => ?_)
              · (try dsimp only)
                first | exact ⟨held_below (W := A) (by repeat (first | (with_reducible exact Below.refl _ _) | (with_reducible refine Below.setCell ?_ ?_ _) | (with_reducible refine Below.drew ?_) | (with_reducible refine Below.alloc ?_ ?_ _) | omega | (simp <;> omega))) yl, held_below (W := A) (by repeat (first | (with_reducible exact Below.refl _ _) | (with_reducible refine Below.setCell ?_ ?_ _) | (with_reducible refine Below.drew ?_) | (with_reducible refine Below.alloc ?_ ?_ _) | omega | (simp <;> omega))) yp, held_below (W := A) (by repeat (first | (with_reducible exact Below.refl _ _) | (with_reducible refine Below.setCell ?_ ?_ _) | (with_reducible refine Below.drew ?_) | (with_reducible refine Below.alloc ?_ ?_ _) | omega | (simp <;> omega))) r0, held_below (W := A) (by repeat (first | (with_reducible exact Below.refl _ _) | (with_reducible refine Below.setCell ?_ ?_ _) | (with_reducible refine Below.drew ?_) | (with_reducible refine Below.alloc ?_ ?_ _) | omega | (simp <;> omega))) r1, held_below (W := A) (by repeat (first | (with_reducible exact Below.refl _ _) | (with_reducible refine Below.setCell ?_ ?_ _) | (with_reducible refine Below.drew ?_) | (with_reducible refine Below.alloc ?_ ?_ _) | omega | (simp <;> omega))) r2⟩ | go_keep
              clear hK K
              (try simp only [Act.put, List.setIfInBounds_toArray, List.set_cons_zero, List.set_cons_succ])
              refine wpAnyH_ready (rs := [10]) (by kernel_rfl) (by simp) ?_
              refine AllReadyH.cons (i := 10) rfl (fun K hK => ?_) AllReadyH.nil
              (try dsimp only [List.getElem_toArray, List.getElem_cons_zero, List.getElem_cons_succ])
              go_simp
              refine (c1 _).mono ?_
              rintro e w1 ⟨rfl, hw1⟩
              go_wp2_with (fail)
              refine hK.out _ _ ?_ (fun hHeld => ?_)
              · (try dsimp only)
                first | exact ⟨held_below (W := A) (by repeat (first | (with_reducible exact Below.refl _ _) | (with_reducible refine Below.setCell ?_ ?_ _) | (with_reducible refine Below.drew ?_) | (with_reducible refine Below.alloc ?_ ?_ _) | (with_reducible refine Below.trans ?_ (Below.mono hw1 ?_)) | (with_reducible exact hw1.size) | omega | (simp <;> omega) | (simp <;> (have s := hw1.size; omega)) | (have s0 := hw1.size; (try simp at s0); (try simp); omega))) yl, held_below (W := A) (by repeat (first | (with_reducible exact Below.refl _ _) | (with_reducible refine Below.setCell ?_ ?_ _) | (with_reducible refine Below.drew ?_) | (with_reducible refine Below.alloc ?_ ?_ _) | (with_reducible refine Below.trans ?_ (Below.mono hw1 ?_)) | (with_reducible exact hw1.size) | omega | (simp <;> omega) | (simp <;> (have s := hw1.size; omega)) | (have s0 := hw1.size; (try simp at s0); (try simp); omega))) yp, held_below (W := A) (by repeat (first | (with_reducible exact Below.refl _ _) | (with_reducible refine Below.setCell ?_ ?_ _) | (with_reducible refine Below.drew ?_) | (with_reducible refine Below.alloc ?_ ?_ _) | (with_reducible refine Below.trans ?_ (Below.mono hw1 ?_)) | (with_reducible exact hw1.size) | omega | (simp <;> omega) | (simp <;> (have s := hw1.size; omega)) | (have s0 := hw1.size; (try simp at s0); (try simp); omega))) r0, held_below (W := A) (by repeat (first | (with_reducible exact Below.refl _ _) | (with_reducible refine Below.setCell ?_ ?_ _) | (with_reducible refine Below.drew ?_) | (with_reducible refine Below.alloc ?_ ?_ _) | (with_reducible refine Below.trans ?_ (Below.mono hw1 ?_)) | (with_reducible exact hw1.size) | omega | (simp <;> omega) | (simp <;> (have s := hw1.size; omega)) | (have s0 := hw1.size; (try simp at s0); (try simp); omega))) r1, held_below (W := A) (by repeat (first | (with_reducible exact Below.refl _ _) | (with_reducible refine Below.setCell ?_ ?_ _) | (with_reducible refine Below.drew ?_) | (with_reducible refine Below.alloc ?_ ?_ _) | (with_reducible refine Below.trans ?_ (Below.mono hw1 ?_)) | (with_reducible exact hw1.size) | omega | (simp <;> omega) | (simp <;> (have s := hw1.size; omega)) | (have s0 := hw1.size; (try simp at s0); (try simp); omega))) r2⟩ | go_keep
              clear hK K
              (try simp only [Act.put, List.setIfInBounds_toArray, List.set_cons_zero, List.set_cons_succ])
              refine wpAnyH_ready (rs := [11]) (by kernel_rfl) (by simp) ?_
              refine AllReadyH.cons (i := 11) rfl (fun K hK => ?_) AllReadyH.nil
              (try dsimp only [List.getElem_toArray, List.getElem_cons_zero, List.getElem_cons_succ])
              go_simp
              refine (c2 _).mono ?_
              rintro e w2 ⟨rfl, hw2⟩
              go_wp2_with (fail)
              refine hK.out _ _ ?_ (fun hHeld => ?_)
              · (try dsimp only)
                first | exact ⟨held_below (W := A) (by repeat (first | (with_reducible exact Below.refl _ _) | (with_reducible refine Below.setCell ?_ ?_ _) | (with_reducible refine Below.drew ?_) | (with_reducible refine Below.alloc ?_ ?_ _) | (with_reducible refine Below.trans ?_ (Below.mono hw2 ?_)) | (with_reducible refine Below.trans ?_ (Below.mono hw1 ?_)) | (with_reducible exact hw2.size) | (with_reducible exact hw1.size) | omega | (simp <;> omega) | (simp <;> (have s := hw2.size; omega)) | (simp <;> (have s := hw1.size; omega)) | (have s0 := hw2.size; (try simp at s0); have s1 := hw1.size; (try simp at s1); (try simp); omega))) yl, held_below (W := A) (by repeat (first | (with_reducible exact Below.refl _ _) | (with_reducible refine Below.setCell ?_ ?_ _) | (with_reducible refine Below.drew ?_) | (with_reducible refine Below.alloc ?_ ?_ _) | (with_reducible refine Below.trans ?_ (Below.mono hw2 ?_)) | (with_reducible refine Below.trans ?_ (Below.mono hw1 ?_)) | (with_reducible exact hw2.size) | (with_reducible exact hw1.size) | omega | (simp <;> omega) | (simp <;> (have s := hw2.size; omega)) | (simp <;> (have s := hw1.size; omega)) | (have s0 := hw2.size; (try simp at s0); have s1 := hw1.size; (try simp at s1); (try simp); omega))) yp, held_below (W := A) (by repeat (first | (with_reducible exact Below.refl _ _) | (with_reducible refine Below.setCell ?_ ?_ _) | (with_reducible refine Below.drew ?_) | (with_reducible refine Below.alloc ?_ ?_ _) | (with_reducible refine Below.trans ?_ (Below.mono hw2 ?_)) | (with_reducible refine Below.trans ?_ (Below.mono hw1 ?_)) | (with_reducible exact hw2.size) | (with_reducible exact hw1.size) | omega | (simp <;> omega) | (simp <;> (have s := hw2.size; omega)) | (simp <;> (have s := hw1.size; omega)) | (have s0 := hw2.size; (try simp at s0); have s1 := hw1.size; (try simp at s1); (try simp); omega))) r0, held_below (W := A) (by repeat (first | (with_reducible exact Below.refl _ _) | (with_reducible refine Below.setCell ?_ ?_ _) | (with_reducible refine Below.drew ?_) | (with_reducible refine Below.alloc ?_ ?_ _) | (with_reducible refine Below.trans ?_ (Below.mono hw2 ?_)) | (with_reducible refine Below.trans ?_ (Below.mono hw1 ?_)) | (with_reducible exact hw2.size) | (with_reducible exact hw1.size) | omega | (simp <;> omega) | (simp <;> (have s := hw2.size; omega)) | (simp <;> (have s := hw1.size; omega)) | (have s0 := hw2.size; (try simp at s0); have s1 := hw1.size; (try simp at s1); (try simp); omega))) r1, held_below (W := A) (by repeat (first | (with_reducible exact Below.refl _ _) | (with_reducible refine Below.setCell ?_ ?_ _) | (with_reducible refine Below.drew ?_) | (with_reducible refine Below.alloc ?_ ?_ _) | (with_reducible refine Below.trans ?_ (Below.mono hw2 ?_)) | (with_reducible refine Below.trans ?_ (Below.mono hw1 ?_)) | (with_reducible exact hw2.size) | (with_reducible exact hw1.size) | omega | (simp <;> omega) | (simp <;> (have s := hw2.size; omega)) | (simp <;> (have s := hw1.size; omega)) | (have s0 := hw2.size; (try simp at s0); have s1 := hw1.size; (try simp at s1); (try simp); omega))) r2⟩ | go_keep
              clear hK K
              (try simp only [Act.put, List.setIfInBounds_toArray, List.set_cons_zero, List.set_cons_succ])
              refine wpAnyH_ready (rs := [19]) (by kernel_rfl) (by simp) ?_
              refine AllReadyH.cons (i := 19) rfl (fun K hK => ?_) AllReadyH.nil
              (try dsimp only [List.getElem_toArray, List.getElem_cons_zero, List.getElem_cons_succ])
              go_simp
              have bw : Below A.heap.size A w2 := by repeat (first | (with_reducible exact Below.refl _ _) | (with_reducible refine Below.setCell ?_ ?_ _) | (with_reducible refine Below.drew ?_) | (with_reducible refine Below.alloc ?_ ?_ _) | (with_reducible refine Below.trans ?_ (Below.mono hw2 ?_)) | (with_reducible refine Below.trans ?_ (Below.mono hw1 ?_)) | (with_reducible exact hw2.size) | (with_reducible exact hw1.size) | omega | (simp <;> omega) | (simp <;> (have s := hw2.size; omega)) | (simp <;> (have s := hw1.size; omega)) | (have s0 := hw2.size; (try simp at s0); have s1 := hw1.size; (try simp at s1); (try simp); omega))
              refine (c3 _ (HCA.out.pr.later bw)).mono ?_
              rintro e w3 ⟨rfl, hg3, hp3⟩
              have s0 := hg3.cell (held_below (W := A) bw yl) (by simp; exact hd3)
              have s1 := hg3.cell (held_below (W := A) bw yp) (by simp; exact hd3)
              have s2 := hg3.cell (held_below (W := A) bw r0) (by simp; exact hRg)
              have s3 := hg3.cell (held_below (W := A) bw r1) (by simp; exact hRg)
              have s4 := hg3.cell (held_below (W := A) bw r2) (by simp; exact hRg)
              have s5 := hg3.cell (held_below (W := A) bw yk) (by simp; exact hd1)
              have sf : ∀ i, w3.frozen? ⟨gl, i, none⟩ = false := fun i => (World.frozen?_of_block (a := ⟨gl, i, none⟩) (hg3.block gl (Nat.lt_of_lt_of_le lA bw.size) (by simp; exact hd1))).trans ((bw.frozen (p := ⟨gl, i, none⟩) lA).trans (fA i))
              have sl : gl < w3.heap.size := World.block_lt_of_cell? w3 _ s5
              go_wp2_with (fail)
              refine hK.out _ _ ?_ (fun hHeld => ?_)
              · exact ⟨s0, s1, s2, s3, s4⟩
              clear hK K
              (try simp only [Act.put, List.setIfInBounds_toArray, List.set_cons_zero, List.set_cons_succ])
              refine wpAnyH_take (i := 20) (v := ?_) rfl (by kernel_rfl) (by kernel_rfl) (by kernel_rfl) (fun _ _ _ h => h) (Or.inl ⟨by rfl, ?_⟩) (by assumption) ?_
              rotate_left
              · (intro w hSw; (try dsimp only at hSw); (try simp only [List.getElem_toArray, List.getElem_cons_zero, List.getElem_cons_succ]); go_simp; (try with_reducible rfl))
              (try simp only [Act.put, List.setIfInBounds_toArray, List.set_cons_zero, List.set_cons_succ, List.getElem_toArray, List.getElem_cons_zero, List.getElem_cons_succ])
              refine wpAnyH_ready (rs := [21]) (by kernel_rfl) (by simp) ?_
              refine AllReadyH.cons (i := 21) rfl (fun K hK => ?_) AllReadyH.nil
              (try dsimp only [List.getElem_toArray, List.getElem_cons_zero, List.getElem_cons_succ])
              go_simp
              refine hK.out _ _ ?_ (fun hHeld => ?_)
              · (try dsimp only)
                exact ⟨(World.cell?_setCell_other _ _ _ _ (by simp <;> omega)).trans s0, (World.cell?_setCell_other _ _ _ _ (by simp <;> omega)).trans s1, (World.cell?_setCell_other _ _ _ _ (by simp <;> omega)).trans s2, (World.cell?_setCell_other _ _ _ _ (by simp <;> omega)).trans s3, (World.cell?_setCell_other _ _ _ _ (by simp <;> omega)).trans s4⟩
              clear hK K
              (try simp only [Act.put, List.setIfInBounds_toArray, List.set_cons_zero, List.set_cons_succ])
              refine wpAnyH_done (by kernel_rfl) ?_ _
              refine NoPanic.normal ?_
              have C3 := (HCA.out.later bw).touch hg3 hp3
              have C4 := C3.link j HPL.out v
              rw [HM0.out] at C4
              have Gp := grown_setCell w3 ⟨gl, j, none⟩ (.int .i64 (nm v))
              have M4 := ((MA.out.later bw).far hg3 (by simp; exact hd3) (by simp; exact he1)).far Gp (by simp; exact hd5) (by simp; exact he2)
              have Q4 : Hid (∀ (i : Nat) (x : Bool), P[i]? = some x → (w3.setCell ⟨gl, j, none⟩ (.int .i64 (nm v))).cell? ⟨pb, i, none⟩ = some (pv x)) := Lib.hid (fun i x hx => Gp.cell (hg3.cell (held_below (W := A) bw (QA.out i x hx)) (by simp; exact n2)) (by simp; exact n1))
              have hmA : m ≤ A.heap.size := Nat.le_of_lt (Nat.lt_of_le_of_lt HCA.out.mb HCA.out.lb)
              have b3 := (HBA.out.trans (bw.mono hmA)).grown hg3 (Nat.le_trans hmA bw.size) (fun i hi => by simp at hi; omega)
              have b4 := Lib.hid (b3.setCell (p := ⟨gl, j, none⟩) hml (.int .i64 (nm v)))
              have HC4 := Lib.hid C4
              have HM4 := Lib.hid M4
              clear C3 C4 Gp M4 hg3 hp3 b3 hHeld s0 s1 s2 s3 s4 s5 sf sl zk yl yp yk r0 r1 r2
              go_wp2
              exact ⟨⟨j + 1, by omega, by go_num, HC4, HM4, Q4, b4.out⟩, by simp [intOf]; omega⟩
          · obtain rfl : j = n := by omega
            have hCf := hC.out
            rw [show j = L.length from HLE.out.symm, mixQ_end HTL.out] at hCf
            rw [show L.length = j from HLE.out] at hCf
            have HKS : Hid (KS a b c j N wr m B gl gx gp gm kl kx km (act a b c (L, l) false)) := by
              rw [HAC.out]
              have := HSN.out
              rw [HAC.out] at this
              exact Lib.hid ⟨hCf, hM.out, this⟩
            rw [← HNX.out] at HKS
            clear hCf hC hM
            go_wp2
            exact ⟨⟨k + 1, by omega, by go_num, HKS, hPi, hbi⟩, by simp [intOf]; omega⟩
    · obtain rfl : k = P.length := by omega
      have hKf := hK.out
      rw [List.take_length] at hKf
      have HKf := Lib.hid hKf
      clear hK hKf
      go_wp2
      go_end0
      exact ⟨rfl, HKf.out, hb⟩
end Go.Proofs.Ytilbhcjnkmeecaa
