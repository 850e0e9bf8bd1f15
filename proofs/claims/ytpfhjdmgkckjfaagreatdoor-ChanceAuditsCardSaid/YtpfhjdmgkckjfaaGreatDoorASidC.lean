/- The sides of a plaquette, as the program makes them.
Conditions: those written at each theorem; the variable steps holds what the program's text lays. -/
import Derived.Test.YtpfhjdmgkckjfaaGreatDoorASortC
import Derived.Test.YtpfhjdmgkckjfaaGreatDoorAPathA
import Derived.Test.YtpfhjdmgkckjfaaGreatDoorAShelf
namespace Go.Proofs.YtpfhjdmgkckjfaaGreatDoor
set_option linter.unusedVariables false
set_option linter.unusedSimpArgs false
set_option maxRecDepth 1000000
open Go.RowKit
open Um Tm Cm

/-- what the variable steps holds -/
structure StA (w : World) : Prop where
  c0 : w.cell? ⟨0, 0, none⟩ = some (.int .i64 1)
  c1 : w.cell? ⟨0, 1, none⟩ = some (.int .i64 2)
  c2 : w.cell? ⟨0, 2, none⟩ = some (.int .i64 1)
  c3 : w.cell? ⟨0, 3, none⟩ = some (.int .i64 3)
  c4 : w.cell? ⟨0, 4, none⟩ = some (.int .i64 2)
  c5 : w.cell? ⟨0, 5, none⟩ = some (.int .i64 3)
theorem StA.lt {w : World} (h : StA w) : 0 < w.heap.size := World.block_lt_of_cell? w _ h.c0
theorem StA.later {w w1 : World} (h : StA w) (hb : Below w.heap.size w w1) : StA w1 :=
  ⟨(hb.cell h.lt).trans h.c0, (hb.cell h.lt).trans h.c1, (hb.cell h.lt).trans h.c2, (hb.cell h.lt).trans h.c3, (hb.cell h.lt).trans h.c4, (hb.cell h.lt).trans h.c5⟩
/-- a side in memory -/
def sc (x : Int × Bool) : List Value := [.int .i64 x.1, .bool x.2]
def LiesS (w : World) (b off : Nat) (S : List (Int × Bool)) : Prop := ∀ (i : Nat) (x : Int × Bool), S[i]? = some x → w.cell? ⟨b, off + i * 2, none⟩ = some (.int .i64 x.1) ∧ w.cell? ⟨b, off + i * 2 + 1, none⟩ = some (.bool x.2)
theorem LiesS.later {w w1 : World} {b off : Nat} {S : List (Int × Bool)} (h : LiesS w b off S) (hb : Below w.heap.size w w1) : LiesS w1 b off S := fun i x hx => by
  obtain ⟨f, f1⟩ := h i x hx
  have hl := World.block_lt_of_cell? w _ f
  exact ⟨(hb.cell hl).trans f, (hb.cell (World.block_lt_of_cell? w _ f1)).trans f1⟩
/-- the sides of a plaquette -/
def sdl (a b c p : Int) : List (Int × Bool) := (lks a b c p).zip [false, false, true, true]
theorem infoS : (Tryz.prog.info? 177).map (fun i => (i.zero, i.size, i.bytes)) = some (some (.agg #[.int .i64 0, .bool false]), 2, 16) := by kernel_rfl
theorem four_ints {w : World} {b : Nat} {x y z t : Int} (h0 : w.cell? ⟨b, 0, none⟩ = some (.int .i64 x)) (h1 : w.cell? ⟨b, 1, none⟩ = some (.int .i64 y)) (h2 : w.cell? ⟨b, 2, none⟩ = some (.int .i64 z)) (h3 : w.cell? ⟨b, 3, none⟩ = some (.int .i64 t)) : LiesI w b 0 [x, y, z, t] := fun i v hv => by
  match i, hv with
  | 0, hv => simp at hv; subst hv; simpa using h0
  | 1, hv => simp at hv; subst hv; simpa using h1
  | 2, hv => simp at hv; subst hv; simpa using h2
  | 3, hv => simp at hv; subst hv; simpa using h3
  | n + 4, hv => simp at hv
theorem two_cellsS {w : World} {b : Nat} {x : Int × Bool} (h : w.cell? ⟨b, 0, none⟩ = some (.int .i64 x.1)) (h1 : w.cell? ⟨b, 1, none⟩ = some (.bool x.2)) : ∀ j u, (sc x)[j]? = some u → w.cell? (Addr.add ⟨b, 0, none⟩ j) = some u := fun j u hj => by
  match j, hj with
  | 0, hj => simp [sc] at hj; subst hj; exact h
  | 1, hj => simp [sc] at hj; subst hj; exact h1
  | n + 2, hj => simp [sc] at hj
theorem two_oneS (x : Int × Bool) : ∀ u ∈ sc x, u.oneCell' = true := fun u hu => by
  simp [sc] at hu
  rcases hu with rfl | rfl <;> rfl
theorem owned_liesS {w : World} {base : Nat} {T : TypeId} {g cap : Nat} {S : List (Int × Bool)} (h : w.ownsRow base T 2 (.slice (some ⟨g, 0, none⟩) S.length cap) S.length (S.flatMap sc)) : LiesS w g 0 S := fun i x hx => by
  have hi : i < S.length := (List.getElem?_eq_some_iff.1 hx).1
  have f := flat_get sc 2 (fun _ => rfl) S i x hx
  exact ⟨by rw [Nat.zero_add, h.cellAt (i * 2) (by omega), show i * 2 = i * 2 + 0 from rfl, f 0 (by omega)]; rfl, by rw [Nat.zero_add, h.cellAt (i * 2 + 1) (by omega), f 1 (by omega)]; rfl⟩
/-- four numbers of a path in a block -/
structure PB4 (w : World) (b : Nat) (x y z t : Int) : Prop where
  c0 : w.cell? ⟨b, 0, none⟩ = some (.int .i64 x)
  c1 : w.cell? ⟨b, 1, none⟩ = some (.int .i64 y)
  c2 : w.cell? ⟨b, 2, none⟩ = some (.int .i64 z)
  c3 : w.cell? ⟨b, 3, none⟩ = some (.int .i64 t)
  lt : b < w.heap.size
theorem PB4.later {w w1 : World} {b : Nat} {x y z t : Int} (h : PB4 w b x y z t) (hb : Below w.heap.size w w1) : PB4 w1 b x y z t :=
  ⟨(hb.cell h.lt).trans h.c0, (hb.cell h.lt).trans h.c1, (hb.cell h.lt).trans h.c2, (hb.cell h.lt).trans h.c3, Nat.lt_of_lt_of_le h.lt hb.size⟩
theorem PB4.grown {w w1 : World} {b : Nat} {x y z t : Int} {row : Option Nat} (h : PB4 w b x y z t) (hg : w.grownBy w1 row) (hne : some b ≠ row) : PB4 w1 b x y z t :=
  ⟨hg.cell h.c0 hne, hg.cell h.c1 hne, hg.cell h.c2 hne, hg.cell h.c3 hne, Nat.lt_of_lt_of_le h.lt hg.size⟩
theorem LiesI.grown {w w1 : World} {b off : Nat} {l : List Int} {row : Option Nat} (h : LiesI w b off l) (hg : w.grownBy w1 row) (hne : some b ≠ row) : LiesI w1 b off l := fun i x hx => hg.cell (h i x hx) hne
def RetS (m : Nat) (S : List (Int × Bool)) (e : Ending) (w' : World) : Prop := ∃ g k : Nat, e = .returned (.tuple #[.slice (some ⟨g, 0, none⟩) 4 k, .int .i64 0]) ∧ LiesS w' g 0 S ∧ m ≤ g

theorem steps4 {l : List Int} (h : ∀ t ∈ l, t = 1 ∨ t = 2 ∨ t = 3 ∨ t = -1 ∨ t = -2 ∨ t = -3) : ∀ t ∈ l, IsStep t := fun t ht => by
  have := h t ht
  exact ⟨by omega, by omega, by omega⟩
theorem lies_some {w : World} {ao : Option Addr} {x : Int} {l : List Int} (h : LiesOI w ao (x :: l)) : ∃ b off, ao = some ⟨b, off, none⟩ ∧ LiesI w b off (x :: l) := by
  rcases h with h | h
  · simp at h
  · exact h
theorem sides_at {A B s0 s1 s2 s3 s4 : Int} {S : List (Int × Bool)} (h : S = [(3 * s0 + A - 1, false), (3 * s1 + B - 1, false), (3 * s3 - (-A) - 1, true), (3 * s4 - (-B) - 1, true)]) (a1 : 1 ≤ A) (a3 : A ≤ 3) (b1 : 1 ≤ B) (b3 : B ≤ 3) (t0 : -1 ≤ s0 ∧ s0 ≤ 17) (t1 : -1 ≤ s1 ∧ s1 ≤ 17) (t3 : -1 ≤ s3 ∧ s3 ≤ 17) (t4 : -1 ≤ s4 ∧ s4 ≤ 17) : ∀ k, k < 4 → ∃ (pv sv : Int), [A, B, -A, -B][k]? = some pv ∧ [s0, s1, s2, s3, s4][if k < 2 then k else k + 1]? = some sv ∧ S[k]? = some (if k < 2 then (3 * sv + pv - 1, false) else (3 * sv - pv - 1, true)) ∧ (-3 ≤ pv ∧ pv ≤ 3) ∧ (-1 ≤ sv ∧ sv ≤ 17) ∧ ((1 ≤ pv ∧ k < 2) ∨ (pv ≤ -1 ∧ ¬ k < 2)) := by
  intro k hk
  subst h
  match k, hk with
  | 0, _ => exact ⟨A, s0, rfl, rfl, rfl, ⟨by omega, by omega⟩, t0, .inl ⟨by omega, by omega⟩⟩
  | 1, _ => exact ⟨B, s1, rfl, rfl, rfl, ⟨by omega, by omega⟩, t1, .inl ⟨by omega, by omega⟩⟩
  | 2, _ => exact ⟨-A, s3, rfl, rfl, rfl, ⟨by omega, by omega⟩, t3, .inr ⟨by omega, by omega⟩⟩
  | 3, _ => exact ⟨-B, s4, rfl, rfl, rfl, ⟨by omega, by omega⟩, t4, .inr ⟨by omega, by omega⟩⟩
set_option maxHeartbeats 6400000 in
theorem sides0 (a b c p : Int) (w : World) (hz : Sz a b c) (h0 : 0 ≤ p) (h1 : p < 3 * (a * b * c)) (hr : p % 3 = 0) (hst : StA w) : Calls Tryz.prog 102 #[.agg #[.int .i64 a, .int .i64 b, .int .i64 c], .int .i64 p] w fun e w' => RetS w.heap.size (sdl a b c p) e w' ∧ Below w.heap.size w w' := by
  obtain ⟨i0, hi, hz0, hz1, hz2⟩ := info_parts infoS
  obtain ⟨s0, s1, s2, s3, s4, hwl, hlk, hq⟩ := sides_eq hz h0 h1
  have ea : sta p = 1 := by unfold sta; rw [hr]; rfl
  have eb : stb p = 2 := by unfold stb; rw [hr]; rfl
  rw [ea, eb] at hwl hlk
  have c1 : ∀ (g : Nat) (W : World), LiesI W g 0 [1, 2, -1, -2] → Calls Tryz.prog 127 #[.agg #[.int .i64 a, .int .i64 b, .int .i64 c], .int .i64 (p / 3), .slice (some ⟨g, 0, none⟩) 4 4] W fun e w' => ∃ ao k, e = .returned (.tuple #[.slice ao 5 k, .int .i64 0]) ∧ LiesOI w' ao [s0, s1, s2, s3, s4] ∧ Below W.heap.size W w' := fun g W h => by
    have := walkO_ok a b c (p / 3) (some ⟨g, 0, none⟩) 4 [1, 2, -1, -2] W hz (by omega) (by omega) (.inr ⟨g, 0, rfl, h⟩) (steps4 (by decide)) (by decide)
    rw [hwl] at this
    exact this
  rw [hlk] at hq
  have q0 := hq _ (List.mem_cons_self)
  have q1 := hq _ (List.mem_cons_of_mem _ List.mem_cons_self)
  have q2 := hq _ (List.mem_cons_of_mem _ (List.mem_cons_of_mem _ List.mem_cons_self))
  have q3 := hq _ (List.mem_cons_of_mem _ (List.mem_cons_of_mem _ (List.mem_cons_of_mem _ List.mem_cons_self)))
  have p4 := hz.p
  have t0 : -1 ≤ s0 ∧ s0 ≤ 17 := by omega
  have t1 : -1 ≤ s1 ∧ s1 ≤ 17 := by omega
  have t3 : -1 ≤ s3 ∧ s3 ≤ 17 := by omega
  have t4 : -1 ≤ s4 ∧ s4 ≤ 17 := by omega
  have HD := Lib.hid (show sdl a b c p = [(3 * s0 + 1 - 1, false), (3 * s1 + 2 - 1, false), (3 * s3 - (-1) - 1, true), (3 * s4 - (-2) - 1, true)] by unfold sdl; rw [hlk]; rfl)
  have e1 : p.tmod 3 = 0 := by rw [Int.tmod_eq_emod_of_nonneg h0]; exact hr
  obtain ⟨g0, g1, g2, g3, g4, g5⟩ := hst
  have glt : 0 < w.heap.size := World.block_lt_of_cell? w _ g0
  have hp1 : p < 48 := by omega
  clear hz h1 hr ea eb hwl hlk hq q0 q1 q2 q3 p4
  have mk : ∀ W : World, (Instr.makeSlice 144 (.int .i64 0) (.int .i64 4)).run Tryz.prog W = .ok (.slice (some ⟨W.heap.size, 0, none⟩) 0 4) (W.alloc (.cells (madeCells #[.int .i64 0, .bool false] (4 * 2)) 177)) := fun W => by
    have := run_make (P := Tryz.prog) W 144 177 i0 _ Tryz.underlying144 hi hz0 .i64 .i64 0 4 (by omega) (by omega) (by rw [hz2]; omega) (by omega)
    rw [this, hz1]
    rfl
  have kc := @Tail.cell_re; have kc1 : ∀ (W : World) (o : Obj) (d : Nat) (os : Array Obj) (a : Addr), a.block ≤ W.heap.size → (Sort.grow (redrawn (W.alloc o) d) os).cell? a = (W.alloc o).cell? a := fun W o d os a h => Tail.cell_re (W.alloc o) d os a (Nat.lt_of_le_of_lt h (by simp))
  go_enter Tryz.func102, Tryz.ntmps102
  go_wp2
  refine Tail.region_below (by kernel_rfl) (by kernel_rfl) ?_
  repeat (go_big_quiet_step (fail))
  refine wpQuiet_nil ?_
  intro w1 hw1
  have hc1 := Tail.cells hw1
  have z1 := Nat.lt_of_lt_of_le (n := w.heap.size) (by simp) hw1.size
  clear e1 g0 g1 g2 g3 g4 g5
  go_wp2_with ((with_reducible refine (c1 _ _ (four_ints (by simp [go_sem]) (by simp [go_sem]) (by simp [go_sem]) (by simp [go_sem]))).mono ?_); clear c1; rintro e w2 ⟨ao, cs, rfl, hls, hw2⟩; obtain ⟨sb, so, rfl, hls2⟩ := lies_some hls; have HLS := Lib.hid hls2; clear hls hls2)
  have hs1 := hw1.size
  have hs2 := hw2.size
  simp at hs1 hs2
  have pb := (four_ints (by simp [go_sem]) (by simp [go_sem]) (by simp [go_sem]) (by simp [go_sem]) : LiesI (w1.alloc (.cells #[.int .i64 1, .int .i64 2, .int .i64 (-1), .int .i64 (-2)] 3)) w1.heap.size 0 [1, 2, -1, -2]).later hw2
  have o1 := World.ownsRow_made (base := w2.heap.size) (e := 177) (size := 2) w2 (madeCells #[.int .i64 0, .bool false] (4 * 2)) 4 (Nat.le_refl _) (by unfold maxLen; omega) (by simp [madeCells])
  have pb1 := pb.later ((Below.refl _ _).alloc (Nat.le_refl _) (.cells (madeCells #[.int .i64 0, .bool false] (4 * 2)) 177))
  have sl1 := HLS.out.later ((Below.refl _ _).alloc (Nat.le_refl _) (.cells (madeCells #[.int .i64 0, .bool false] (4 * 2)) 177))
  have hB : Below w.heap.size w (w2.alloc (.cells (madeCells #[.int .i64 0, .bool false] (4 * 2)) 177)) := by repeat (first | (with_reducible exact Below.refl _ _) | (with_reducible refine Below.setCell ?_ ?_ _) | (with_reducible refine Below.drew ?_) | (with_reducible refine Below.alloc ?_ ?_ _) | (with_reducible refine Below.trans ?_ (Below.mono hw2 ?_)) | (with_reducible refine Below.trans ?_ (Below.mono hw1 ?_)) | (with_reducible exact hw2.size) | (with_reducible exact hw1.size) | omega | (simp <;> omega) | (simp <;> (have s := hw2.size; omega)) | (simp <;> (have s := hw1.size; omega)) | (have s0 := hw2.size; (try simp at s0); have s1 := hw1.size; (try simp at s1); (try simp); omega))
  have hsb := HLS.out 0 _ rfl
  have hsbl : sb < w2.heap.size := World.block_lt_of_cell? w2 _ hsb
  have hp2 : w1.heap.size < w2.heap.size := by omega
  have hw0 : w.heap.size ≤ w2.heap.size := by omega
  have HSD := Lib.hid (sides_at (s2 := s2) (A := 1) (B := 2) HD.out (by omega) (by omega) (by omega) (by omega) t0 t1 t3 t4)
  have HSL := Lib.hid (show (sdl a b c p).length = 4 by rw [HD.out]; rfl)
  clear pb HLS hsb hw1 hw2 hc1 HD
  obtain ⟨S, hSe⟩ : ∃ S, sdl a b c p = S := ⟨_, rfl⟩
  rw [hSe] at HSD HSL
  have HSE := Lib.hid hSe
  clear hSe
  have hsz : w2.heap.size < (w2.alloc (.cells (madeCells #[.int .i64 0, .bool false] (4 * 2)) 177)).heap.size := by simp
  generalize w2.heap.size = m2 at *
  generalize w1.heap.size = m1 at *
  go_loopw [11, 12, 13, 47] (fun f _ _ q wr => ∃ (k : Nat) (v : Value), k ≤ 4 ∧ q = .int .i64 k ∧ v = f ∧ Hid (wr.ownsRow m2 177 2 v k ((S.take k).flatMap sc)) ∧ LiesI wr m1 0 [1, 2, -1, -2] ∧ LiesI wr sb so [s0, s1, s2, s3, s4] ∧ m2 < wr.heap.size ∧ Below w.heap.size w wr) (fun _ _ _ q _ => 4 - (intOf q).toNat)
  case atStart => exact ⟨0, _, by omega, rfl, rfl, Lib.hid o1, pb1, sl1, hsz, hB⟩
  case round =>
    obtain ⟨k, v, hk, rfl, rfl, hown, pbr, slr, hm, hb⟩ := hrel
    clear o1 pb1 sl1 hB hsz
    have hbs := hb.size
    have PBR := Lib.hid pbr
    have SLR := Lib.hid slr
    by_cases hlt : k < 4
    · have i1 : (k : Int) < 4 := by omega
      obtain ⟨pv, sv, hpv, hsv, hS, hr1, hr2, hsn⟩ := HSD.out k hlt
      have hfl := take_flat sc S k (by rw [HSL.out]; exact hlt)
      rw [(List.getElem?_eq_some_iff.1 hS).2] at hfl
      have x1 := PBR.out k _ hpv
      rw [Nat.zero_add] at x1
      obtain ⟨v1, v2⟩ := hr1
      obtain ⟨v3, v4⟩ := hr2
      clear hS hpv pbr slr
      rcases hsn with ⟨hsn, hk2⟩ | ⟨hsn, hk2⟩
      · rw [if_pos hk2] at hfl hsv
        have HFL := Lib.hid hfl
        have y1 := SLR.out k _ hsv
        clear hfl
        have hneg : (pv > 0) := by omega
        clear hsv
        go_wp2_with (at_builtin; refine wpList_append_own _ rfl (.tmp 54) (.tmp 64) 144 rfl m2 177 i0 _ 2 16 Tryz.underlying144 hi hz0 hz1 hz2 rfl (by decide) v k ((S.take k).flatMap sc) rfl (hown.out.alloc _) ⟨wr.heap.size, 0, none⟩ 1 1 (sc (3 * sv + pv - 1, false)) rfl rfl (two_cellsS (by simp [go_sem]) (by simp [go_sem])) (two_oneS _) (by unfold maxLen; omega) (by omega) (by simp; omega) ?_; intro v' w4 hown4 hgrow4 _)
        have hfr := owned_from hown.out
        have n1 := owned_ne hown.out (b := m1) (by omega)
        have n2 := owned_ne hown.out (b := sb) (by omega)
        have AL : Below wr.heap.size wr (wr.alloc (.cells #[.int .i64 (3 * sv + pv - 1), .bool false] 177)) := (Below.refl _ _).alloc (Nat.le_refl _) _
        have pb4 := (PBR.out.later AL).grown hgrow4 n1
        have sl4 := (SLR.out.later AL).grown hgrow4 n2
        have b4 := (hb.alloc hb.size (.cells #[.int .i64 (3 * sv + pv - 1), .bool false] 177)).grown hgrow4 (by simp; omega) (fun j hj => by have := hfr j hj; omega)
        have hm4 : m2 < w4.heap.size := by have := hgrow4.size; simp at this; omega
        have ho : w4.ownsRow m2 177 2 v' (k + 1) ((S.take (k + 1)).flatMap sc) := by rw [HFL.out]; exact hown4
        clear hown4 hgrow4 hown PBR SLR AL HFL
        go_wp2
        exact ⟨⟨k + 1, _, by omega, by go_num, rfl, Lib.hid ho, pb4, sl4, hm4, b4⟩, by simp [intOf]; omega⟩
      · rw [if_neg hk2] at hfl hsv
        have HFL := Lib.hid hfl
        have y1 := SLR.out (k + 1) _ hsv
        clear hfl
        have hneg : ¬ (pv > 0) := by omega
        clear hsv
        go_wp2_with (at_builtin; refine wpList_append_own _ rfl (.tmp 66) (.tmp 77) 144 rfl m2 177 i0 _ 2 16 Tryz.underlying144 hi hz0 hz1 hz2 rfl (by decide) v k ((S.take k).flatMap sc) rfl (hown.out.alloc _) ⟨wr.heap.size, 0, none⟩ 1 1 (sc (3 * sv - pv - 1, true)) rfl rfl (two_cellsS (by simp [go_sem]) (by simp [go_sem])) (two_oneS _) (by unfold maxLen; omega) (by omega) (by simp; omega) ?_; intro v' w4 hown4 hgrow4 _)
        have hfr := owned_from hown.out
        have n1 := owned_ne hown.out (b := m1) (by omega)
        have n2 := owned_ne hown.out (b := sb) (by omega)
        have AL : Below wr.heap.size wr (wr.alloc (.cells #[.int .i64 (3 * sv - pv - 1), .bool true] 177)) := (Below.refl _ _).alloc (Nat.le_refl _) _
        have pb4 := (PBR.out.later AL).grown hgrow4 n1
        have sl4 := (SLR.out.later AL).grown hgrow4 n2
        have b4 := (hb.alloc hb.size (.cells #[.int .i64 (3 * sv - pv - 1), .bool true] 177)).grown hgrow4 (by simp; omega) (fun j hj => by have := hfr j hj; omega)
        have hm4 : m2 < w4.heap.size := by have := hgrow4.size; simp at this; omega
        have ho : w4.ownsRow m2 177 2 v' (k + 1) ((S.take (k + 1)).flatMap sc) := by rw [HFL.out]; exact hown4
        clear hown4 hgrow4 hown PBR SLR AL HFL
        go_wp2
        exact ⟨⟨k + 1, _, by omega, by go_num, rfl, Lib.hid ho, pb4, sl4, hm4, b4⟩, by simp [intOf]; omega⟩
    · obtain rfl : k = 4 := by omega
      have hown' : wr.ownsRow m2 177 2 v S.length (S.flatMap sc) := by
        have := hown.out
        rw [List.take_of_length_le (by rw [HSL.out]; exact Nat.le_refl _)] at this
        rw [HSL.out]
        exact this
      rcases hown'.2 with ⟨-, h0⟩ | ⟨g, cap, cur, rfl, hg, hrest⟩
      · rw [HSL.out] at h0; omega
      · have hli := owned_liesS hown'
        have HLI := Lib.hid hli
        have HLN := Lib.hid HSL.out
        clear hown hown' hrest hli pbr slr
        go_wp2
        go_ret2
        exact ⟨⟨g, cap, by rw [HLN.out]; rfl, by rw [HSE.out]; exact HLI.out, by omega⟩, hb⟩
set_option maxHeartbeats 6400000 in
theorem sides1 (a b c p : Int) (w : World) (hz : Sz a b c) (h0 : 0 ≤ p) (h1 : p < 3 * (a * b * c)) (hr : p % 3 = 1) (hst : StA w) : Calls Tryz.prog 102 #[.agg #[.int .i64 a, .int .i64 b, .int .i64 c], .int .i64 p] w fun e w' => RetS w.heap.size (sdl a b c p) e w' ∧ Below w.heap.size w w' := by
  obtain ⟨i0, hi, hz0, hz1, hz2⟩ := info_parts infoS
  obtain ⟨s0, s1, s2, s3, s4, hwl, hlk, hq⟩ := sides_eq hz h0 h1
  have ea : sta p = 1 := by unfold sta; rw [hr]; rfl
  have eb : stb p = 3 := by unfold stb; rw [hr]; rfl
  rw [ea, eb] at hwl hlk
  have c1 : ∀ (g : Nat) (W : World), LiesI W g 0 [1, 3, -1, -3] → Calls Tryz.prog 127 #[.agg #[.int .i64 a, .int .i64 b, .int .i64 c], .int .i64 (p / 3), .slice (some ⟨g, 0, none⟩) 4 4] W fun e w' => ∃ ao k, e = .returned (.tuple #[.slice ao 5 k, .int .i64 0]) ∧ LiesOI w' ao [s0, s1, s2, s3, s4] ∧ Below W.heap.size W w' := fun g W h => by
    have := walkO_ok a b c (p / 3) (some ⟨g, 0, none⟩) 4 [1, 3, -1, -3] W hz (by omega) (by omega) (.inr ⟨g, 0, rfl, h⟩) (steps4 (by decide)) (by decide)
    rw [hwl] at this
    exact this
  rw [hlk] at hq
  have q0 := hq _ (List.mem_cons_self)
  have q1 := hq _ (List.mem_cons_of_mem _ List.mem_cons_self)
  have q2 := hq _ (List.mem_cons_of_mem _ (List.mem_cons_of_mem _ List.mem_cons_self))
  have q3 := hq _ (List.mem_cons_of_mem _ (List.mem_cons_of_mem _ (List.mem_cons_of_mem _ List.mem_cons_self)))
  have p4 := hz.p
  have t0 : -1 ≤ s0 ∧ s0 ≤ 17 := by omega
  have t1 : -1 ≤ s1 ∧ s1 ≤ 17 := by omega
  have t3 : -1 ≤ s3 ∧ s3 ≤ 17 := by omega
  have t4 : -1 ≤ s4 ∧ s4 ≤ 17 := by omega
  have HD := Lib.hid (show sdl a b c p = [(3 * s0 + 1 - 1, false), (3 * s1 + 3 - 1, false), (3 * s3 - (-1) - 1, true), (3 * s4 - (-3) - 1, true)] by unfold sdl; rw [hlk]; rfl)
  have e1 : p.tmod 3 = 1 := by rw [Int.tmod_eq_emod_of_nonneg h0]; exact hr
  obtain ⟨g0, g1, g2, g3, g4, g5⟩ := hst
  have glt : 0 < w.heap.size := World.block_lt_of_cell? w _ g0
  have hp1 : p < 48 := by omega
  clear hz h1 hr ea eb hwl hlk hq q0 q1 q2 q3 p4
  have mk : ∀ W : World, (Instr.makeSlice 144 (.int .i64 0) (.int .i64 4)).run Tryz.prog W = .ok (.slice (some ⟨W.heap.size, 0, none⟩) 0 4) (W.alloc (.cells (madeCells #[.int .i64 0, .bool false] (4 * 2)) 177)) := fun W => by
    have := run_make (P := Tryz.prog) W 144 177 i0 _ Tryz.underlying144 hi hz0 .i64 .i64 0 4 (by omega) (by omega) (by rw [hz2]; omega) (by omega)
    rw [this, hz1]
    rfl
  have kc := @Tail.cell_re; have kc1 : ∀ (W : World) (o : Obj) (d : Nat) (os : Array Obj) (a : Addr), a.block ≤ W.heap.size → (Sort.grow (redrawn (W.alloc o) d) os).cell? a = (W.alloc o).cell? a := fun W o d os a h => Tail.cell_re (W.alloc o) d os a (Nat.lt_of_le_of_lt h (by simp))
  go_enter Tryz.func102, Tryz.ntmps102
  go_wp2
  refine Tail.region_below (by kernel_rfl) (by kernel_rfl) ?_
  repeat (go_big_quiet_step (fail))
  refine wpQuiet_nil ?_
  intro w1 hw1
  have hc1 := Tail.cells hw1
  have z1 := Nat.lt_of_lt_of_le (n := w.heap.size) (by simp) hw1.size
  clear e1 g0 g1 g2 g3 g4 g5
  go_wp2_with ((with_reducible refine (c1 _ _ (four_ints (by simp [go_sem]) (by simp [go_sem]) (by simp [go_sem]) (by simp [go_sem]))).mono ?_); clear c1; rintro e w2 ⟨ao, cs, rfl, hls, hw2⟩; obtain ⟨sb, so, rfl, hls2⟩ := lies_some hls; have HLS := Lib.hid hls2; clear hls hls2)
  have hs1 := hw1.size
  have hs2 := hw2.size
  simp at hs1 hs2
  have pb := (four_ints (by simp [go_sem]) (by simp [go_sem]) (by simp [go_sem]) (by simp [go_sem]) : LiesI (w1.alloc (.cells #[.int .i64 1, .int .i64 3, .int .i64 (-1), .int .i64 (-3)] 3)) w1.heap.size 0 [1, 3, -1, -3]).later hw2
  have o1 := World.ownsRow_made (base := w2.heap.size) (e := 177) (size := 2) w2 (madeCells #[.int .i64 0, .bool false] (4 * 2)) 4 (Nat.le_refl _) (by unfold maxLen; omega) (by simp [madeCells])
  have pb1 := pb.later ((Below.refl _ _).alloc (Nat.le_refl _) (.cells (madeCells #[.int .i64 0, .bool false] (4 * 2)) 177))
  have sl1 := HLS.out.later ((Below.refl _ _).alloc (Nat.le_refl _) (.cells (madeCells #[.int .i64 0, .bool false] (4 * 2)) 177))
  have hB : Below w.heap.size w (w2.alloc (.cells (madeCells #[.int .i64 0, .bool false] (4 * 2)) 177)) := by repeat (first | (with_reducible exact Below.refl _ _) | (with_reducible refine Below.setCell ?_ ?_ _) | (with_reducible refine Below.drew ?_) | (with_reducible refine Below.alloc ?_ ?_ _) | (with_reducible refine Below.trans ?_ (Below.mono hw2 ?_)) | (with_reducible refine Below.trans ?_ (Below.mono hw1 ?_)) | (with_reducible exact hw2.size) | (with_reducible exact hw1.size) | omega | (simp <;> omega) | (simp <;> (have s := hw2.size; omega)) | (simp <;> (have s := hw1.size; omega)) | (have s0 := hw2.size; (try simp at s0); have s1 := hw1.size; (try simp at s1); (try simp); omega))
  have hsb := HLS.out 0 _ rfl
  have hsbl : sb < w2.heap.size := World.block_lt_of_cell? w2 _ hsb
  have hp2 : w1.heap.size < w2.heap.size := by omega
  have hw0 : w.heap.size ≤ w2.heap.size := by omega
  have HSD := Lib.hid (sides_at (s2 := s2) (A := 1) (B := 3) HD.out (by omega) (by omega) (by omega) (by omega) t0 t1 t3 t4)
  have HSL := Lib.hid (show (sdl a b c p).length = 4 by rw [HD.out]; rfl)
  clear pb HLS hsb hw1 hw2 hc1 HD
  obtain ⟨S, hSe⟩ : ∃ S, sdl a b c p = S := ⟨_, rfl⟩
  rw [hSe] at HSD HSL
  have HSE := Lib.hid hSe
  clear hSe
  have hsz : w2.heap.size < (w2.alloc (.cells (madeCells #[.int .i64 0, .bool false] (4 * 2)) 177)).heap.size := by simp
  generalize w2.heap.size = m2 at *
  generalize w1.heap.size = m1 at *
  go_loopw [11, 12, 13, 47] (fun f _ _ q wr => ∃ (k : Nat) (v : Value), k ≤ 4 ∧ q = .int .i64 k ∧ v = f ∧ Hid (wr.ownsRow m2 177 2 v k ((S.take k).flatMap sc)) ∧ LiesI wr m1 0 [1, 3, -1, -3] ∧ LiesI wr sb so [s0, s1, s2, s3, s4] ∧ m2 < wr.heap.size ∧ Below w.heap.size w wr) (fun _ _ _ q _ => 4 - (intOf q).toNat)
  case atStart => exact ⟨0, _, by omega, rfl, rfl, Lib.hid o1, pb1, sl1, hsz, hB⟩
  case round =>
    obtain ⟨k, v, hk, rfl, rfl, hown, pbr, slr, hm, hb⟩ := hrel
    clear o1 pb1 sl1 hB hsz
    have hbs := hb.size
    have PBR := Lib.hid pbr
    have SLR := Lib.hid slr
    by_cases hlt : k < 4
    · have i1 : (k : Int) < 4 := by omega
      obtain ⟨pv, sv, hpv, hsv, hS, hr1, hr2, hsn⟩ := HSD.out k hlt
      have hfl := take_flat sc S k (by rw [HSL.out]; exact hlt)
      rw [(List.getElem?_eq_some_iff.1 hS).2] at hfl
      have x1 := PBR.out k _ hpv
      rw [Nat.zero_add] at x1
      obtain ⟨v1, v2⟩ := hr1
      obtain ⟨v3, v4⟩ := hr2
      clear hS hpv pbr slr
      rcases hsn with ⟨hsn, hk2⟩ | ⟨hsn, hk2⟩
      · rw [if_pos hk2] at hfl hsv
        have HFL := Lib.hid hfl
        have y1 := SLR.out k _ hsv
        clear hfl
        have hneg : (pv > 0) := by omega
        clear hsv
        go_wp2_with (at_builtin; refine wpList_append_own _ rfl (.tmp 54) (.tmp 64) 144 rfl m2 177 i0 _ 2 16 Tryz.underlying144 hi hz0 hz1 hz2 rfl (by decide) v k ((S.take k).flatMap sc) rfl (hown.out.alloc _) ⟨wr.heap.size, 0, none⟩ 1 1 (sc (3 * sv + pv - 1, false)) rfl rfl (two_cellsS (by simp [go_sem]) (by simp [go_sem])) (two_oneS _) (by unfold maxLen; omega) (by omega) (by simp; omega) ?_; intro v' w4 hown4 hgrow4 _)
        have hfr := owned_from hown.out
        have n1 := owned_ne hown.out (b := m1) (by omega)
        have n2 := owned_ne hown.out (b := sb) (by omega)
        have AL : Below wr.heap.size wr (wr.alloc (.cells #[.int .i64 (3 * sv + pv - 1), .bool false] 177)) := (Below.refl _ _).alloc (Nat.le_refl _) _
        have pb4 := (PBR.out.later AL).grown hgrow4 n1
        have sl4 := (SLR.out.later AL).grown hgrow4 n2
        have b4 := (hb.alloc hb.size (.cells #[.int .i64 (3 * sv + pv - 1), .bool false] 177)).grown hgrow4 (by simp; omega) (fun j hj => by have := hfr j hj; omega)
        have hm4 : m2 < w4.heap.size := by have := hgrow4.size; simp at this; omega
        have ho : w4.ownsRow m2 177 2 v' (k + 1) ((S.take (k + 1)).flatMap sc) := by rw [HFL.out]; exact hown4
        clear hown4 hgrow4 hown PBR SLR AL HFL
        go_wp2
        exact ⟨⟨k + 1, _, by omega, by go_num, rfl, Lib.hid ho, pb4, sl4, hm4, b4⟩, by simp [intOf]; omega⟩
      · rw [if_neg hk2] at hfl hsv
        have HFL := Lib.hid hfl
        have y1 := SLR.out (k + 1) _ hsv
        clear hfl
        have hneg : ¬ (pv > 0) := by omega
        clear hsv
        go_wp2_with (at_builtin; refine wpList_append_own _ rfl (.tmp 66) (.tmp 77) 144 rfl m2 177 i0 _ 2 16 Tryz.underlying144 hi hz0 hz1 hz2 rfl (by decide) v k ((S.take k).flatMap sc) rfl (hown.out.alloc _) ⟨wr.heap.size, 0, none⟩ 1 1 (sc (3 * sv - pv - 1, true)) rfl rfl (two_cellsS (by simp [go_sem]) (by simp [go_sem])) (two_oneS _) (by unfold maxLen; omega) (by omega) (by simp; omega) ?_; intro v' w4 hown4 hgrow4 _)
        have hfr := owned_from hown.out
        have n1 := owned_ne hown.out (b := m1) (by omega)
        have n2 := owned_ne hown.out (b := sb) (by omega)
        have AL : Below wr.heap.size wr (wr.alloc (.cells #[.int .i64 (3 * sv - pv - 1), .bool true] 177)) := (Below.refl _ _).alloc (Nat.le_refl _) _
        have pb4 := (PBR.out.later AL).grown hgrow4 n1
        have sl4 := (SLR.out.later AL).grown hgrow4 n2
        have b4 := (hb.alloc hb.size (.cells #[.int .i64 (3 * sv - pv - 1), .bool true] 177)).grown hgrow4 (by simp; omega) (fun j hj => by have := hfr j hj; omega)
        have hm4 : m2 < w4.heap.size := by have := hgrow4.size; simp at this; omega
        have ho : w4.ownsRow m2 177 2 v' (k + 1) ((S.take (k + 1)).flatMap sc) := by rw [HFL.out]; exact hown4
        clear hown4 hgrow4 hown PBR SLR AL HFL
        go_wp2
        exact ⟨⟨k + 1, _, by omega, by go_num, rfl, Lib.hid ho, pb4, sl4, hm4, b4⟩, by simp [intOf]; omega⟩
    · obtain rfl : k = 4 := by omega
      have hown' : wr.ownsRow m2 177 2 v S.length (S.flatMap sc) := by
        have := hown.out
        rw [List.take_of_length_le (by rw [HSL.out]; exact Nat.le_refl _)] at this
        rw [HSL.out]
        exact this
      rcases hown'.2 with ⟨-, h0⟩ | ⟨g, cap, cur, rfl, hg, hrest⟩
      · rw [HSL.out] at h0; omega
      · have hli := owned_liesS hown'
        have HLI := Lib.hid hli
        have HLN := Lib.hid HSL.out
        clear hown hown' hrest hli pbr slr
        go_wp2
        go_ret2
        exact ⟨⟨g, cap, by rw [HLN.out]; rfl, by rw [HSE.out]; exact HLI.out, by omega⟩, hb⟩
set_option maxHeartbeats 6400000 in
theorem sides2 (a b c p : Int) (w : World) (hz : Sz a b c) (h0 : 0 ≤ p) (h1 : p < 3 * (a * b * c)) (hr : p % 3 = 2) (hst : StA w) : Calls Tryz.prog 102 #[.agg #[.int .i64 a, .int .i64 b, .int .i64 c], .int .i64 p] w fun e w' => RetS w.heap.size (sdl a b c p) e w' ∧ Below w.heap.size w w' := by
  obtain ⟨i0, hi, hz0, hz1, hz2⟩ := info_parts infoS
  obtain ⟨s0, s1, s2, s3, s4, hwl, hlk, hq⟩ := sides_eq hz h0 h1
  have ea : sta p = 2 := by unfold sta; rw [hr]; rfl
  have eb : stb p = 3 := by unfold stb; rw [hr]; rfl
  rw [ea, eb] at hwl hlk
  have c1 : ∀ (g : Nat) (W : World), LiesI W g 0 [2, 3, -2, -3] → Calls Tryz.prog 127 #[.agg #[.int .i64 a, .int .i64 b, .int .i64 c], .int .i64 (p / 3), .slice (some ⟨g, 0, none⟩) 4 4] W fun e w' => ∃ ao k, e = .returned (.tuple #[.slice ao 5 k, .int .i64 0]) ∧ LiesOI w' ao [s0, s1, s2, s3, s4] ∧ Below W.heap.size W w' := fun g W h => by
    have := walkO_ok a b c (p / 3) (some ⟨g, 0, none⟩) 4 [2, 3, -2, -3] W hz (by omega) (by omega) (.inr ⟨g, 0, rfl, h⟩) (steps4 (by decide)) (by decide)
    rw [hwl] at this
    exact this
  rw [hlk] at hq
  have q0 := hq _ (List.mem_cons_self)
  have q1 := hq _ (List.mem_cons_of_mem _ List.mem_cons_self)
  have q2 := hq _ (List.mem_cons_of_mem _ (List.mem_cons_of_mem _ List.mem_cons_self))
  have q3 := hq _ (List.mem_cons_of_mem _ (List.mem_cons_of_mem _ (List.mem_cons_of_mem _ List.mem_cons_self)))
  have p4 := hz.p
  have t0 : -1 ≤ s0 ∧ s0 ≤ 17 := by omega
  have t1 : -1 ≤ s1 ∧ s1 ≤ 17 := by omega
  have t3 : -1 ≤ s3 ∧ s3 ≤ 17 := by omega
  have t4 : -1 ≤ s4 ∧ s4 ≤ 17 := by omega
  have HD := Lib.hid (show sdl a b c p = [(3 * s0 + 2 - 1, false), (3 * s1 + 3 - 1, false), (3 * s3 - (-2) - 1, true), (3 * s4 - (-3) - 1, true)] by unfold sdl; rw [hlk]; rfl)
  have e1 : p.tmod 3 = 2 := by rw [Int.tmod_eq_emod_of_nonneg h0]; exact hr
  obtain ⟨g0, g1, g2, g3, g4, g5⟩ := hst
  have glt : 0 < w.heap.size := World.block_lt_of_cell? w _ g0
  have hp1 : p < 48 := by omega
  clear hz h1 hr ea eb hwl hlk hq q0 q1 q2 q3 p4
  have mk : ∀ W : World, (Instr.makeSlice 144 (.int .i64 0) (.int .i64 4)).run Tryz.prog W = .ok (.slice (some ⟨W.heap.size, 0, none⟩) 0 4) (W.alloc (.cells (madeCells #[.int .i64 0, .bool false] (4 * 2)) 177)) := fun W => by
    have := run_make (P := Tryz.prog) W 144 177 i0 _ Tryz.underlying144 hi hz0 .i64 .i64 0 4 (by omega) (by omega) (by rw [hz2]; omega) (by omega)
    rw [this, hz1]
    rfl
  have kc := @Tail.cell_re; have kc1 : ∀ (W : World) (o : Obj) (d : Nat) (os : Array Obj) (a : Addr), a.block ≤ W.heap.size → (Sort.grow (redrawn (W.alloc o) d) os).cell? a = (W.alloc o).cell? a := fun W o d os a h => Tail.cell_re (W.alloc o) d os a (Nat.lt_of_le_of_lt h (by simp))
  go_enter Tryz.func102, Tryz.ntmps102
  go_wp2
  refine Tail.region_below (by kernel_rfl) (by kernel_rfl) ?_
  repeat (go_big_quiet_step (fail))
  refine wpQuiet_nil ?_
  intro w1 hw1
  have hc1 := Tail.cells hw1
  have z1 := Nat.lt_of_lt_of_le (n := w.heap.size) (by simp) hw1.size
  clear e1 g0 g1 g2 g3 g4 g5
  go_wp2_with ((with_reducible refine (c1 _ _ (four_ints (by simp [go_sem]) (by simp [go_sem]) (by simp [go_sem]) (by simp [go_sem]))).mono ?_); clear c1; rintro e w2 ⟨ao, cs, rfl, hls, hw2⟩; obtain ⟨sb, so, rfl, hls2⟩ := lies_some hls; have HLS := Lib.hid hls2; clear hls hls2)
  have hs1 := hw1.size
  have hs2 := hw2.size
  simp at hs1 hs2
  have pb := (four_ints (by simp [go_sem]) (by simp [go_sem]) (by simp [go_sem]) (by simp [go_sem]) : LiesI (w1.alloc (.cells #[.int .i64 2, .int .i64 3, .int .i64 (-2), .int .i64 (-3)] 3)) w1.heap.size 0 [2, 3, -2, -3]).later hw2
  have o1 := World.ownsRow_made (base := w2.heap.size) (e := 177) (size := 2) w2 (madeCells #[.int .i64 0, .bool false] (4 * 2)) 4 (Nat.le_refl _) (by unfold maxLen; omega) (by simp [madeCells])
  have pb1 := pb.later ((Below.refl _ _).alloc (Nat.le_refl _) (.cells (madeCells #[.int .i64 0, .bool false] (4 * 2)) 177))
  have sl1 := HLS.out.later ((Below.refl _ _).alloc (Nat.le_refl _) (.cells (madeCells #[.int .i64 0, .bool false] (4 * 2)) 177))
  have hB : Below w.heap.size w (w2.alloc (.cells (madeCells #[.int .i64 0, .bool false] (4 * 2)) 177)) := by repeat (first | (with_reducible exact Below.refl _ _) | (with_reducible refine Below.setCell ?_ ?_ _) | (with_reducible refine Below.drew ?_) | (with_reducible refine Below.alloc ?_ ?_ _) | (with_reducible refine Below.trans ?_ (Below.mono hw2 ?_)) | (with_reducible refine Below.trans ?_ (Below.mono hw1 ?_)) | (with_reducible exact hw2.size) | (with_reducible exact hw1.size) | omega | (simp <;> omega) | (simp <;> (have s := hw2.size; omega)) | (simp <;> (have s := hw1.size; omega)) | (have s0 := hw2.size; (try simp at s0); have s1 := hw1.size; (try simp at s1); (try simp); omega))
  have hsb := HLS.out 0 _ rfl
  have hsbl : sb < w2.heap.size := World.block_lt_of_cell? w2 _ hsb
  have hp2 : w1.heap.size < w2.heap.size := by omega
  have hw0 : w.heap.size ≤ w2.heap.size := by omega
  have HSD := Lib.hid (sides_at (s2 := s2) (A := 2) (B := 3) HD.out (by omega) (by omega) (by omega) (by omega) t0 t1 t3 t4)
  have HSL := Lib.hid (show (sdl a b c p).length = 4 by rw [HD.out]; rfl)
  clear pb HLS hsb hw1 hw2 hc1 HD
  obtain ⟨S, hSe⟩ : ∃ S, sdl a b c p = S := ⟨_, rfl⟩
  rw [hSe] at HSD HSL
  have HSE := Lib.hid hSe
  clear hSe
  have hsz : w2.heap.size < (w2.alloc (.cells (madeCells #[.int .i64 0, .bool false] (4 * 2)) 177)).heap.size := by simp
  generalize w2.heap.size = m2 at *
  generalize w1.heap.size = m1 at *
  go_loopw [11, 12, 13, 47] (fun f _ _ q wr => ∃ (k : Nat) (v : Value), k ≤ 4 ∧ q = .int .i64 k ∧ v = f ∧ Hid (wr.ownsRow m2 177 2 v k ((S.take k).flatMap sc)) ∧ LiesI wr m1 0 [2, 3, -2, -3] ∧ LiesI wr sb so [s0, s1, s2, s3, s4] ∧ m2 < wr.heap.size ∧ Below w.heap.size w wr) (fun _ _ _ q _ => 4 - (intOf q).toNat)
  case atStart => exact ⟨0, _, by omega, rfl, rfl, Lib.hid o1, pb1, sl1, hsz, hB⟩
  case round =>
    obtain ⟨k, v, hk, rfl, rfl, hown, pbr, slr, hm, hb⟩ := hrel
    clear o1 pb1 sl1 hB hsz
    have hbs := hb.size
    have PBR := Lib.hid pbr
    have SLR := Lib.hid slr
    by_cases hlt : k < 4
    · have i1 : (k : Int) < 4 := by omega
      obtain ⟨pv, sv, hpv, hsv, hS, hr1, hr2, hsn⟩ := HSD.out k hlt
      have hfl := take_flat sc S k (by rw [HSL.out]; exact hlt)
      rw [(List.getElem?_eq_some_iff.1 hS).2] at hfl
      have x1 := PBR.out k _ hpv
      rw [Nat.zero_add] at x1
      obtain ⟨v1, v2⟩ := hr1
      obtain ⟨v3, v4⟩ := hr2
      clear hS hpv pbr slr
      rcases hsn with ⟨hsn, hk2⟩ | ⟨hsn, hk2⟩
      · rw [if_pos hk2] at hfl hsv
        have HFL := Lib.hid hfl
        have y1 := SLR.out k _ hsv
        clear hfl
        have hneg : (pv > 0) := by omega
        clear hsv
        go_wp2_with (at_builtin; refine wpList_append_own _ rfl (.tmp 54) (.tmp 64) 144 rfl m2 177 i0 _ 2 16 Tryz.underlying144 hi hz0 hz1 hz2 rfl (by decide) v k ((S.take k).flatMap sc) rfl (hown.out.alloc _) ⟨wr.heap.size, 0, none⟩ 1 1 (sc (3 * sv + pv - 1, false)) rfl rfl (two_cellsS (by simp [go_sem]) (by simp [go_sem])) (two_oneS _) (by unfold maxLen; omega) (by omega) (by simp; omega) ?_; intro v' w4 hown4 hgrow4 _)
        have hfr := owned_from hown.out
        have n1 := owned_ne hown.out (b := m1) (by omega)
        have n2 := owned_ne hown.out (b := sb) (by omega)
        have AL : Below wr.heap.size wr (wr.alloc (.cells #[.int .i64 (3 * sv + pv - 1), .bool false] 177)) := (Below.refl _ _).alloc (Nat.le_refl _) _
        have pb4 := (PBR.out.later AL).grown hgrow4 n1
        have sl4 := (SLR.out.later AL).grown hgrow4 n2
        have b4 := (hb.alloc hb.size (.cells #[.int .i64 (3 * sv + pv - 1), .bool false] 177)).grown hgrow4 (by simp; omega) (fun j hj => by have := hfr j hj; omega)
        have hm4 : m2 < w4.heap.size := by have := hgrow4.size; simp at this; omega
        have ho : w4.ownsRow m2 177 2 v' (k + 1) ((S.take (k + 1)).flatMap sc) := by rw [HFL.out]; exact hown4
        clear hown4 hgrow4 hown PBR SLR AL HFL
        go_wp2
        exact ⟨⟨k + 1, _, by omega, by go_num, rfl, Lib.hid ho, pb4, sl4, hm4, b4⟩, by simp [intOf]; omega⟩
      · rw [if_neg hk2] at hfl hsv
        have HFL := Lib.hid hfl
        have y1 := SLR.out (k + 1) _ hsv
        clear hfl
        have hneg : ¬ (pv > 0) := by omega
        clear hsv
        go_wp2_with (at_builtin; refine wpList_append_own _ rfl (.tmp 66) (.tmp 77) 144 rfl m2 177 i0 _ 2 16 Tryz.underlying144 hi hz0 hz1 hz2 rfl (by decide) v k ((S.take k).flatMap sc) rfl (hown.out.alloc _) ⟨wr.heap.size, 0, none⟩ 1 1 (sc (3 * sv - pv - 1, true)) rfl rfl (two_cellsS (by simp [go_sem]) (by simp [go_sem])) (two_oneS _) (by unfold maxLen; omega) (by omega) (by simp; omega) ?_; intro v' w4 hown4 hgrow4 _)
        have hfr := owned_from hown.out
        have n1 := owned_ne hown.out (b := m1) (by omega)
        have n2 := owned_ne hown.out (b := sb) (by omega)
        have AL : Below wr.heap.size wr (wr.alloc (.cells #[.int .i64 (3 * sv - pv - 1), .bool true] 177)) := (Below.refl _ _).alloc (Nat.le_refl _) _
        have pb4 := (PBR.out.later AL).grown hgrow4 n1
        have sl4 := (SLR.out.later AL).grown hgrow4 n2
        have b4 := (hb.alloc hb.size (.cells #[.int .i64 (3 * sv - pv - 1), .bool true] 177)).grown hgrow4 (by simp; omega) (fun j hj => by have := hfr j hj; omega)
        have hm4 : m2 < w4.heap.size := by have := hgrow4.size; simp at this; omega
        have ho : w4.ownsRow m2 177 2 v' (k + 1) ((S.take (k + 1)).flatMap sc) := by rw [HFL.out]; exact hown4
        clear hown4 hgrow4 hown PBR SLR AL HFL
        go_wp2
        exact ⟨⟨k + 1, _, by omega, by go_num, rfl, Lib.hid ho, pb4, sl4, hm4, b4⟩, by simp [intOf]; omega⟩
    · obtain rfl : k = 4 := by omega
      have hown' : wr.ownsRow m2 177 2 v S.length (S.flatMap sc) := by
        have := hown.out
        rw [List.take_of_length_le (by rw [HSL.out]; exact Nat.le_refl _)] at this
        rw [HSL.out]
        exact this
      rcases hown'.2 with ⟨-, h0⟩ | ⟨g, cap, cur, rfl, hg, hrest⟩
      · rw [HSL.out] at h0; omega
      · have hli := owned_liesS hown'
        have HLI := Lib.hid hli
        have HLN := Lib.hid HSL.out
        clear hown hown' hrest hli pbr slr
        go_wp2
        go_ret2
        exact ⟨⟨g, cap, by rw [HLN.out]; rfl, by rw [HSE.out]; exact HLI.out, by omega⟩, hb⟩
theorem sidesOf_any (a b c p : Int) (w : World) (hz : Sz a b c) (h0 : 0 ≤ p) (h1 : p < 3 * (a * b * c)) (hst : StA w) : Calls Tryz.prog 102 #[.agg #[.int .i64 a, .int .i64 b, .int .i64 c], .int .i64 p] w fun e w' => RetS w.heap.size (sdl a b c p) e w' ∧ Below w.heap.size w w' := by
  have h : p % 3 = 0 ∨ p % 3 = 1 ∨ p % 3 = 2 := by omega
  rcases h with h | h | h
  · exact sides0 a b c p w hz h0 h1 h hst
  · exact sides1 a b c p w hz h0 h1 h hst
  · exact sides2 a b c p w hz h0 h1 h hst
end Go.Proofs.YtpfhjdmgkckjfaaGreatDoor
