/- The plain form of a sum of loops, as the program makes it: the walk.
Conditions: those written at each theorem. -/
import Derived.Test.YtjidbajcnomceaaGreatLoopP
namespace Go.Proofs.YtjidbajcnomceaaGreat
set_option linter.unusedVariables false
set_option linter.unusedSimpArgs false
set_option maxRecDepth 1000000
open Go.RowKit
open Um Tm Lm

theorem info2T : (Tryz.prog.info? 60).map (fun i => (i.zero, i.size, i.bytes)) = some (some (.agg #[.int .i64 0, .slice none 0 0]), 2, 32) := by kernel_rfl
theorem off_of {w w1 : World} {B : Nat} {D : DataW Value} {o : List Trm} {left : Lit → Bool} {acc : List E} (h : Jn w B D o left acc) (hb : Below w.heap.size w w1) : Off w1 w.heap.size acc := fun e he => by
  obtain ⟨-, -, -, h4, h5⟩ := h.one e he
  refine ⟨by have := h4.len; omega, ?_⟩
  rcases h5 with h0 | ⟨b, off, ha, -, -, hl⟩
  · exact .inl h0
  · by_cases hp : e.p = []
    · exact .inl hp
    · have hpos : 0 < e.p.length := List.length_pos_iff.2 hp
      have hlt := World.block_lt_of_cell? w _ (hl 0 _ (List.getElem?_eq_getElem hpos))
      exact .inr ⟨b, off, ha, by simp at hlt; omega, hl.later hb⟩
set_option maxHeartbeats 6400000 in
theorem plain_any (B : Nat) (ao : Option Addr) (cap : Nat) (ts : List T3) (w : World) (h : Tr3 w B ao ts) (hB : B ≤ w.heap.size) (hs : ∀ t ∈ ts, t.p.length ≤ 16 ∧ (∀ s ∈ t.p, IsStep s) ∧ -1000000000 ≤ t.c ∧ t.c ≤ 1000000000) (hl : ts.length ≤ 10000) :
    Calls Tryz.prog 88 #[.slice ao ts.length cap] w fun e w' => ∃ a c, ∃ es : List E, e = .returned (.slice a es.length c) ∧ TrsN w' B a es ∧ tm es = plT (pl3 ts) ∧ Below w.heap.size w w' := by
  have hmm := @run_makeMap Tryz.prog
  obtain ⟨i0, hi, hz0, hz1, hz2⟩ := info_parts info2T
  have cP := fun (a1 a2 : Option Addr) c1 c2 (l : List Int) W (h1 : LiesNI W B a1 l) (h2 : LiesNI W B a2 (opp l)) p1 p2 n1 n2 => plainW_any B a1 a2 c1 c2 l (opp l) W h1 h2 p1 p2 n1 n2
  have H := Lib.hid h
  have HS := Lib.hid hs
  clear h hs
  go_enter Tryz.func88, Tryz.ntmps88
  go_wp2
  have hm0 : (w.alloc (.map #[] 0)).ownsMap Tryz.prog 149 rT w.heap.size 0 (.map []) := World.ownsMap_made w _ _ _
  go_loopw [5, 6, 7, 14] (fun _ _ _ q wr => ∃ (k : Nat) (D : DataW Value), k ≤ ts.length ∧ q = .int .i64 k ∧ Hid (wr.ownsMap Tryz.prog 149 rT w.heap.size k D) ∧ Hid (Mp wr B D (coll ((pl3 ts).take k))) ∧ Below w.heap.size w wr ∧ w.heap.size + 1 ≤ wr.heap.size) (fun _ _ _ q _ => ts.length - (intOf q).toNat)
  case atStart => exact ⟨0, .map [], by omega, rfl, Lib.hid hm0, Lib.hid (Mp.empty _ _), by repeat (first | (with_reducible exact Below.refl _ _) | (with_reducible refine Below.setCell ?_ ?_ _) | (with_reducible refine Below.drew ?_) | (with_reducible refine Below.alloc ?_ ?_ _) | omega | (simp <;> omega)), by simp⟩
  case round =>
    obtain ⟨k, D, hk, rfl, HO, HM, hb, hgs⟩ := hrel
    clear hm0
    by_cases hlt : k < ts.length
    · have i1 : (k : Int) < (ts.length : Int) := by omega
      obtain ⟨b, off, rfl, x0, x1, x2, hp1, hp2, hq1, hq2⟩ := (H.out.later hb).at_ hlt
      obtain ⟨hs1, hs2, hs3, hs4⟩ := HS.out _ (List.getElem_mem hlt)
      have hnext := coll_take (pl3 ts) k (by rw [pl3_len]; exact hlt)
      rw [pl3_get ts k hlt] at hnext
      generalize ts[k] = x at *
      obtain ⟨c, p, pa, pk, pb, pm⟩ := x
      simp only at *
      have HN := Lib.hid hnext
      have H1 := Lib.hid hp1
      have H2 := Lib.hid hp2
      have kp : Kp (plp p) := ⟨by rw [plp_len]; exact hs1, plp_st hs2⟩
      have HK := Lib.hid kp
      have e16 : (plp p).length ≤ 16 := kp.len
      clear hnext hp1 hp2 hs2 kp
      go_wp2_with (first
        | (((with_reducible refine (cP _ _ _ _ p _ (H1.out.later (by repeat (first | (with_reducible exact Below.refl _ _) | (with_reducible refine Below.setCell ?_ ?_ _) | (with_reducible refine Below.drew ?_) | (with_reducible refine Below.alloc ?_ ?_ _) | omega | (simp <;> omega)))) (H2.out.later (by repeat (first | (with_reducible exact Below.refl _ _) | (with_reducible refine Below.setCell ?_ ?_ _) | (with_reducible refine Below.drew ?_) | (with_reducible refine Below.alloc ?_ ?_ _) | omega | (simp <;> omega)))) hq1 hq2 (by omega) (by rw [opp_len]; omega)).mono ?_); rintro e w1 ⟨a1, k1, rfl, hl1, hn1, hw1⟩)
           have HL := Lib.hid hl1
           have z1 := Nat.lt_of_lt_of_le (n := wr.heap.size) (by simp) hw1.size
           have hc1 := Tail.cells hw1
           have hb1 : Below w.heap.size w w1 := (by repeat (first | (with_reducible exact Below.refl _ _) | (with_reducible refine Below.setCell ?_ ?_ _) | (with_reducible refine Below.drew ?_) | (with_reducible refine Below.alloc ?_ ?_ _) | (with_reducible refine Below.trans ?_ (Below.mono hw1 ?_)) | (with_reducible refine Below.trans ?_ (Below.mono hb ?_)) | (with_reducible exact hw1.size) | (with_reducible exact hb.size) | omega | (simp <;> omega) | (simp <;> (have s := hw1.size; omega)) | (simp <;> (have s := hb.size; omega)) | (have s0 := hw1.size; (try simp at s0); have s1 := hb.size; (try simp at s1); (try simp); omega)))
           have HO1 : Hid (w1.ownsMap Tryz.prog 149 rT w.heap.size k D) := Lib.hid ((HO.out.alloc _).kept (grown_of hw1 none) (by simp))
           have HM1 : Hid (Mp w1 B D (coll ((pl3 ts).take k))) := Lib.hid ((HM.out.later (w1 := wr.alloc _) (by repeat (first | (with_reducible exact Below.refl _ _) | (with_reducible refine Below.setCell ?_ ?_ _) | (with_reducible refine Below.drew ?_) | (with_reducible refine Below.alloc ?_ ?_ _) | omega | (simp <;> omega)))).later hw1)
           clear HO HM hl1 hw1 hb)
        | (refine wpList_copyRun rfl (.tmp 21) (.tmp 22) 26 26 rfl _ _ _ _ (by rfl) (by rfl) (copy_key w1 _ _ k1 a1 (plp p) HL.out.o e16) ?_))
      go_frame
      obtain ⟨c0, a0, n0, k0, hlk0, hc0⟩ := look_run HO1.out HM1.out HK.out
      have hkey := HK.out.key
      unfold kv at hlk0 hkey
      obtain ⟨x0, x1, x2, x3, x4, x5, x6, x7, x8, x9, x10, x11, x12, x13, x14, x15, hxs⟩ := list16 (padI_len e16)
      rw [hxs] at hlk0 hkey ⊢
      simp only [List.map_cons, List.map_nil, vi] at hlk0 hkey ⊢
      have hlk : ∀ (d : Nat) (os : Array Obj), (Instr.lookup 146 (.map (some w.heap.size)) (.agg #[.int .i64 x0, .int .i64 x1, .int .i64 x2, .int .i64 x3, .int .i64 x4, .int .i64 x5, .int .i64 x6, .int .i64 x7, .int .i64 x8, .int .i64 x9, .int .i64 x10, .int .i64 x11, .int .i64 x12, .int .i64 x13, .int .i64 x14, .int .i64 x15]) false).run Tryz.prog (Sort.grow (redrawn (w1.alloc (.cells #[.int .i64 x0, .int .i64 x1, .int .i64 x2, .int .i64 x3, .int .i64 x4, .int .i64 x5, .int .i64 x6, .int .i64 x7, .int .i64 x8, .int .i64 x9, .int .i64 x10, .int .i64 x11, .int .i64 x12, .int .i64 x13, .int .i64 x14, .int .i64 x15] 149)) d) os) = .ok (.agg #[.int .i64 c0, .slice a0 n0 k0]) (Sort.grow (redrawn (w1.alloc (.cells #[.int .i64 x0, .int .i64 x1, .int .i64 x2, .int .i64 x3, .int .i64 x4, .int .i64 x5, .int .i64 x6, .int .i64 x7, .int .i64 x8, .int .i64 x9, .int .i64 x10, .int .i64 x11, .int .i64 x12, .int .i64 x13, .int .i64 x14, .int .i64 x15] 149)) d) os) := fun d os => hlk0 _ (by
        have hz : w.heap.size < w1.heap.size := HO1.out.lt
        rw [Sort.heap_grow_old _ _ (by show w.heap.size < (w1.alloc _).heap.size; simp; omega)]
        exact Below.heap_alloc w1 _ _ hz)
      have f0 := field0 c0 a0 n0 k0
      have HKEY := Lib.hid hkey
      have HC0 := Lib.hid hc0
      clear hlk0 hkey hxs hc0
      have kc := @Tail.cell_re; have kc1 : ∀ (W : World) (o : Obj) (d : Nat) (os : Array Obj) (a : Addr), a.block ≤ W.heap.size → (Sort.grow (redrawn (W.alloc o) d) os).cell? a = (W.alloc o).cell? a := fun W o d os a h => Tail.cell_re (W.alloc o) d os a (Nat.lt_of_le_of_lt h (by simp))
      refine Tail.region_tail_below 11 (by kernel_rfl) (by kernel_rfl) ?_
      simp only [List.take_succ_cons, List.take_zero]
      repeat (go_big_quiet_step (fail))
      refine wpQuiet_nil ?_
      intro W hW
      simp only [List.drop_succ_cons, List.drop_zero]
      have hHO : W.ownsMap Tryz.prog 149 rT w.heap.size k D := (HO1.out.alloc _).kept (grown_of hW none) (by simp)
      have hHM : Mp W B D (coll ((pl3 ts).take k)) := (HM1.out.later (by repeat (first | (with_reducible exact Below.refl _ _) | (with_reducible refine Below.setCell ?_ ?_ _) | (with_reducible refine Below.drew ?_) | (with_reducible refine Below.alloc ?_ ?_ _) | omega | (simp <;> omega)))).later hW
      have hHL : LiesNI W B a1 (plp p) := (HL.out.later (by repeat (first | (with_reducible exact Below.refl _ _) | (with_reducible refine Below.setCell ?_ ?_ _) | (with_reducible refine Below.drew ?_) | (with_reducible refine Below.alloc ?_ ?_ _) | omega | (simp <;> omega)))).later hW
      have hP := hHM.put (coll_asc _) (map_is hHO) ⟨wrap64 (c0 + c), plp p, a1, k1⟩ c HK.out hHL (sum_is HC0.out hs3 hs4)
      rw [← HN.out] at hP
      have HP := Lib.hid hP
      have HOW := Lib.hid hHO
      have bW : Below w.heap.size w W := by repeat (first | (with_reducible exact Below.refl _ _) | (with_reducible refine Below.setCell ?_ ?_ _) | (with_reducible refine Below.drew ?_) | (with_reducible refine Below.alloc ?_ ?_ _) | (with_reducible refine Below.trans ?_ (Below.mono hW ?_)) | (with_reducible refine Below.trans ?_ (Below.mono hb1 ?_)) | (with_reducible exact hW.size) | (with_reducible exact hb1.size) | omega | (simp <;> omega) | (simp <;> (have s := hW.size; omega)) | (simp <;> (have s := hb1.size; omega)) | (have s0 := hW.size; (try simp at s0); have s1 := hb1.size; (try simp at s1); (try simp); omega))
      have hne := map_cell hHO
      have HNE := Lib.hid hne
      have sW := bW.size
      have sW2 : w.heap.size + 1 ≤ W.heap.size := by have := hHO.lt; omega
      clear hHO hHM hHL hP hne HO1 HM1 HL HN hlk f0 kc kc1 hc1 hW
      go_wp2_with (at_mapUpdate; refine wpList_mapUpdate_own _ rfl (.tmp 24) (.tmp 25) (.tmp 34) 146 rfl 149 60 key_law underM rT w.heap.size k D rfl HOW.out (by unfold maxLen; omega) _ _ (klOf (plp p)) rfl rfl HKEY.out _ [] (rT_mk _ _ _ _) ?_; intro w3 hown3 hgrow3)
      have hM3 := HP.out.other hgrow3 HNE.out
      have b3 : Below w.heap.size w w3 := bW.grown hgrow3 sW (fun j hj => by simp at hj; omega)
      have HO3 := Lib.hid hown3
      have HM3 := Lib.hid hM3
      have s3 := hgrow3.size
      clear hown3 hM3 hgrow3 HP HOW HNE HKEY
      go_wp2
      exact ⟨⟨k + 1, _, by omega, by go_num, HO3, HM3, b3, by omega⟩, by simp [intOf]; omega⟩
    · obtain rfl : ts.length = k := by omega
      have hM : Mp wr B D (coll (pl3 ts)) := by have := HM.out; rwa [List.take_of_length_le (by rw [pl3_len]; omega)] at this
      have hsz := map_size HO.out
      have hn2 : Maps.size D ≤ maxLen := by unfold maxLen; omega
      have hn3 : i0.bytes * Maps.size D ≤ 281474976710656 := by rw [hz2]; omega
      have HMM := Lib.hid hM
      have hlt0 := HO.out.lt
      clear HM hM
      go_wp2_with (first
        | (at_len; refine wpList_len_own _ rfl _ 146 rfl 149 60 underM rT w.heap.size ts.length D rfl HO.out ?_)
        | (at_make; refine wpList_make_own _ rfl _ _ 53 rfl wr.heap.size 60 i0 _ 2 Tryz.underlying53 hi hz0 hz1 _ _ _ (Maps.size D) rfl rfl rfl hn3 hn2 (Nat.le_refl _) ?_; intro w2 hown2 hgrow2)
        | (at_range; refine wpList_range_own _ rfl _ 146 rfl 149 60 key_law underM rT w.heap.size ts.length D rfl (HO.out.kept hgrow2 (by simp)) ?_; intro w3 hrg3 hg3 hs3))
      go_frame
      have hb1 : Below w.heap.size w wr := hb
      have hw0 : w.heap.size < wr.heap.size := HO.out.lt
      have b3 : Below wr.heap.size wr w3 := ((Below.refl wr.heap.size wr).grown hgrow2 (Nat.le_refl _) (by simp)).grown hg3 hgrow2.size (by simp)
      have HA3 := Lib.hid (hown2.kept hg3 (.inr (by simp [Value.ownBlock])))
      have HR3 := Lib.hid hrg3
      have hgr : wr.heap.size < w2.heap.size := (hown2.lt wr.heap.size rfl).2
      have HJ3 := Lib.hid (Jn.start HMM.out)
      clear hown2 hgrow2 hg3 hrg3 hb HO
      generalize w2.heap.size = r at *
      obtain ⟨wo, rfl⟩ : ∃ wo : World, wo = wr := ⟨_, rfl⟩
      go_loopw [8, 10] (fun f _ wr => ∃ (acc : List E) (left : Lit → Bool) (cnt : Nat), acc.length + cnt ≤ Maps.size D ∧ f = .slice (some ⟨wo.heap.size, 0, none⟩) acc.length (Maps.size D) ∧ Hid (wr.ranges Tryz.prog 149 rT w.heap.size r ts.length D left cnt) ∧ Hid (wr.ownsRow wo.heap.size 60 2 (.slice (some ⟨wo.heap.size, 0, none⟩) acc.length (Maps.size D)) acc.length (acc.flatMap ec)) ∧ Hid (Jn wo B D (coll (pl3 ts)) left acc) ∧ Below wo.heap.size wo wr ∧ r + 1 ≤ wr.heap.size) (fun _ _ wr => wr.rangeLeft w.heap.size r)
      case atStart => exact ⟨[], _, _, by simp, rfl, HR3, HA3, HJ3, b3, by omega⟩
      case round =>
        obtain ⟨acc, left, cnt, hcnt, rfl, HR, HA, HJ, hb, hr⟩ := hrel
        clear HA3 HR3 HJ3 b3 hs3
        have hbs := hb.size
        go_wp2_with (at_next; refine wpList_next_ranges _ rfl (.tmp 40) rfl 149 key_law rT (fun v => v) (fun (x : Int × Option Addr × Nat × Nat) => .agg #[.int .i64 x.1, .slice x.2.1 x.2.2.1 x.2.2.2]) (fun key kl _ => ⟨key, rfl⟩) (fun v y hv => (rT_inv hv).imp fun x hx => hx.1) w.heap.size r ts.length D left cnt rfl HR.out ?_ ?_)
        · intro hc0 hl0
          (try go_frame)
          have hoff := off_of HJ.out hb
          have hlen : acc.length ≤ 1000000 := by omega
          have HL0 := Lib.hid hl0
          clear hl0
          go_wp2_with ((with_reducible refine (sortT_any HA.out hoff hlen).mono ?_); rintro e w4 ⟨rfl, es, hperm, hsort, hrows, hg4⟩)
          have hEN : EN w4 B es := fun e he => ((HJ.out.one e (hperm.mem_iff.1 he)).2.2.2.2.later (hb.grown hg4 hbs (fun j hj => by simp at hj; omega)))
          have hfin := fin_eq HJ.out HL0.out hperm (hsort.imp fun h => by omega)
          have hbw : Below w.heap.size w w4 := (hb1.trans (hb.mono hb1.size)).grown hg4 (by have := hb1.size; omega) (fun j hj => by simp at hj; omega)
          have hle := hperm.length_eq
          have HF := Lib.hid hfin
          have HE := Lib.hid hEN
          have HRW := Lib.hid hrows
          have HLE := Lib.hid hle
          clear hEN hfin hle hrows hsort hperm hg4 hoff
          go_wp2
          go_ret
          exact ⟨some ⟨wo.heap.size, 0, none⟩, Maps.size D, es, by rw [HLE.out]; rfl, ⟨.inr ⟨wo.heap.size, 0, rfl, by omega, HRW.out⟩, HE.out⟩, HF.out, hbw⟩
        · intro x c0 a0 n0 k0 kl y1 y2 w4 cnt4 hkey hlk hR hat hrg4 hlt4 hg4 hs4 hen
          rw [rT_mk] at hR
          simp only [Option.some.injEq, Prod.mk.injEq] at hR
          obtain ⟨rfl, rfl⟩ := hR
          obtain ⟨p, rfl, hJ0, hJ1⟩ := HJ.out.step HMM.out hlk hat
          have hb4 : Below wo.heap.size wo w4 := hb.grown hg4 hbs (fun j hj => by simp at hj; omega)
          have hA4 := HA.out.kept hg4 (.inr (by simp [Value.ownBlock]; omega))
          have hml := HR.out.left_eq
          have HA4 := Lib.hid hA4
          have HR4 := Lib.hid hrg4
          have HML := Lib.hid hml
          have hr4 : r + 1 ≤ w4.heap.size := by omega
          clear hs4 hr hat hkey hA4 hrg4 hml HA HR HJ hg4 hb hlk
          by_cases hz : c0 = 0
          · have HJ4 := Lib.hid (hJ0 hz)
            subst hz
            clear hJ0 hJ1
            (try go_frame)
            go_wp2
            have hrn := HR4.out.alloc (.cells #[.int .i64 0, .slice a0 p.length k0] 60)
            refine ⟨⟨acc, _, cnt4, by omega, rfl, Lib.hid hrn, Lib.hid (HA4.out.alloc _), HJ4, by repeat (first | (with_reducible exact Below.refl _ _) | (with_reducible refine Below.setCell ?_ ?_ _) | (with_reducible refine Below.drew ?_) | (with_reducible refine Below.alloc ?_ ?_ _) | (with_reducible refine Below.trans ?_ (Below.mono hb4 ?_)) | (with_reducible exact hb4.size) | omega | (simp <;> omega) | (simp <;> (have s := hb4.size; omega)) | (have s0 := hb4.size; (try simp at s0); (try simp); omega)), by simp; omega⟩, ?_⟩
            rw [hrn.left_eq, HML.out]
            exact hlt4
          · have HJ4 := Lib.hid (hJ1 hz)
            have hz' : (c0 != 0) = true := by simpa using hz
            clear hJ0 hJ1 hz
            (try go_frame)
            go_wp2_with (at_builtin; refine wpList_append_fits _ rfl (.tmp 48) (.tmp 50) 53 rfl wo.heap.size 60 i0 2 Tryz.underlying53 hi hz1 wo.heap.size acc.length (Maps.size D) (acc.flatMap ec) rfl ((HA4.out.alloc _).alloc _) ⟨w4.heap.size + 1, 0, none⟩ 1 1 (ec ⟨c0, p, a0, k0⟩) rfl rfl (two_cells rfl (by simp [go_sem]) (by simp [go_sem])) (ec_one _) (by omega) ?_; intro w5 hown5 hgrow5)
            have hrn := ((HR4.out.alloc (.cells #[.int .i64 c0, .slice a0 p.length k0] 60)).alloc (.cells #[.int .i64 c0, .slice a0 p.length k0] 60)).kept hgrow5 (by simp; omega) (by simp; omega)
            have ho : w5.ownsRow wo.heap.size 60 2 (.slice (some ⟨wo.heap.size, 0, none⟩) (acc.length + 1) (Maps.size D)) (acc.length + 1) ((acc ++ [(⟨c0, p, a0, k0⟩ : E)]).flatMap ec) := by
              rw [List.flatMap_append]
              simpa using hown5
            have hb5 : Below wo.heap.size wo w5 := Below.grown (by repeat (first | (with_reducible exact Below.refl _ _) | (with_reducible refine Below.setCell ?_ ?_ _) | (with_reducible refine Below.drew ?_) | (with_reducible refine Below.alloc ?_ ?_ _) | (with_reducible refine Below.trans ?_ (Below.mono hb4 ?_)) | (with_reducible exact hb4.size) | omega | (simp <;> omega) | (simp <;> (have s := hb4.size; omega)) | (have s0 := hb4.size; (try simp at s0); (try simp); omega))) hgrow5 (by simp; have := hb4.size; omega) (fun j hj => by simp at hj; omega)
            have s5 := hgrow5.size
            simp at s5
            have HO5 := Lib.hid ho
            have HR5 := Lib.hid hrn
            clear hown5 hgrow5 ho hrn HA4 HR4
            go_wp2
            refine ⟨⟨acc ++ [(⟨c0, p, a0, k0⟩ : E)], _, cnt4, by simp; omega, by simp, HR5, Lib.hid (by simpa using HO5.out), HJ4, hb5, by omega⟩, ?_⟩
            rw [HR5.out.left_eq, HML.out]
            exact hlt4
end Go.Proofs.YtjidbajcnomceaaGreat
