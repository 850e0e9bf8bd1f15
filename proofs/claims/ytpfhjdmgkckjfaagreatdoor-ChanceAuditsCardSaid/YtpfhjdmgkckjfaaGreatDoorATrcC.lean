/- The trace of a plaquette if a link has a value, and the weight of a value, as the program makes them.
Conditions: those written at each theorem. -/
import Derived.Test.YtpfhjdmgkckjfaaGreatDoorACrsC
import Derived.Test.YtpfhjdmgkckjfaaGreatDoorANumber
import Derived.Test.YtpfhjdmgkckjfaaGreatDoorAProduct
import Derived.Test.YtpfhjdmgkckjfaaGreatDoorADist
import Derived.Test.YtpfhjdmgkckjfaaGreatDoorAQuatB
import Derived.Test.YtpfhjdmgkckjfaaGreatDoorATabB
namespace Go.Proofs.YtpfhjdmgkckjfaaGreatDoor
set_option linter.unusedVariables false
set_option linter.unusedSimpArgs false
set_option maxRecDepth 1000000
open Go.RowKit
open Um Tm Cm

/-- the unit along a side -/
def sdv (L : List Q) (l : Int) (u : Q) (x : Int × Bool) : Q := if x.2 then bar (lkv L l u x.1) else lkv L l u x.1
theorem sdv_prod {a b c p : Int} {L : List Q} {l : Int} {u : Q} (hs : ∀ x ∈ sdl a b c p, Sm (lkv L l u x.1)) : prodFrom Um.one ((sdl a b c p).map (sdv L l u)) = (plv a b c L l u p, 0) ∧ Sm (plv a b c L l u p) ∧ (sdl a b c p).length = 4 ∧ ∀ x ∈ (sdl a b c p).map (sdv L l u), V x := by
  obtain ⟨l0, l1, l2, l3, h⟩ : ∃ l0 l1 l2 l3, lks a b c p = [l0, l1, l2, l3] := ⟨_, _, _, _, rfl⟩
  unfold sdl at hs ⊢
  unfold plv
  rw [h] at hs ⊢
  have h0 : Sm (lkv L l u l0) := hs (l0, false) (by simp)
  have h1 : Sm (lkv L l u l1) := hs (l1, false) (by simp)
  have h2 : Sm (lkv L l u l2) := hs (l2, true) (by simp)
  have h3 : Sm (lkv L l u l3) := hs (l3, true) (by simp)
  refine ⟨pr4_from h0 h1 h2 h3, pr4_sm h0 h1 h2 h3, rfl, ?_⟩
  intro x hx
  have hx' : x = lkv L l u l0 ∨ x = lkv L l u l1 ∨ x = bar (lkv L l u l2) ∨ x = bar (lkv L l u l3) := by simpa [sdv] using hx
  rcases hx' with rfl | rfl | rfl | rfl
  · exact h0.v
  · exact h1.v
  · exact h2.bar.v
  · exact h3.bar.v
theorem URead.grown {w w1 : World} {b : Nat} {x : Q} {row : Option Nat} (h : URead w b x) (hg : w.grownBy w1 row) (hne : some b ≠ row) : URead w1 b x :=
  ⟨hg.cell h.ca hne, hg.cell h.cb hne, hg.cell h.cc hne, hg.cell h.cd hne, hg.cell h.cn hne, Nat.lt_of_lt_of_le h.lt hg.size⟩
theorem own_ne_new {w : World} {base : Nat} {T : TypeId} {size n : Nat} {v : Value} {xs : List Value} (h : w.ownsRow base T size v n xs) {b : Nat} (hb : w.heap.size < b) : v.ownBlock ≠ some b := by
  intro e
  have := (h.lt b e).2
  omega
theorem lkv_at {L : List Q} {l : Int} {u : Q} {n : Nat} {x : Q} (hx : L[n]? = some x) : lkv L l u (n : Int) = if (n : Int) = l then u else x := by
  unfold lkv lk
  rw [Int.toNat_natCast, List.getD_eq_getElem?_getD, hx]
  rfl
set_option maxHeartbeats 6400000 in
theorem trace_any (a b c p l : Int) (L : List Q) (u : Q) (bl off cap g k : Nat) (pv : Value) (w : World) (hL : Lies w bl off L) (hS : LiesS w g 0 (sdl a b c p)) (hr : ∀ x ∈ sdl a b c p, 0 ≤ x.1 ∧ x.1 < L.length) (hs : ∀ x ∈ sdl a b c p, Sm (lkv L l u x.1)) (hlen : L.length ≤ 48) (hu : V u) (hV : ∀ x ∈ L, V x) :
    Calls Tryz.prog 103 #[.agg #[.slice (some ⟨bl, off, none⟩) L.length cap, .int .i64 l, pv], .slice (some ⟨g, 0, none⟩) 4 k, .agg #[.int .i64 u.a, .int .i64 u.b, .int .i64 u.c, .int .i64 u.d, .int .i64 u.n]] w fun e w' => e = .returned (.tuple #[.int .i64 (trp a b c L l u p), .int .i64 0]) ∧ Below w.heap.size w w' := by
  obtain ⟨i0, hi, hz0, hz1, hz2⟩ := info_parts infoU
  obtain ⟨hpr, hpl, hs4, hXV⟩ := sdv_prod hs
  have HLS := Lib.hid hL
  have HSS := Lib.hid hS
  have HT := Lib.hid (show (tr (plv a b c L l u p)).1 = trp a b c L l u p from rfl)
  have c2 := fun W : World => trace_ok (plv a b c L l u p) W hpl.v
  have c1 := fun (g : Nat) (k : Nat) (W : World) (h : Lies W g 0 ((sdl a b c p).map (sdv L l u))) => quatProduct_some g 0 k ((sdl a b c p).map (sdv L l u)) (plv a b c L l u p) 0 W h hXV (by rw [List.length_map, hs4]; omega) hpr
  rw [List.length_map, hs4] at c1
  have HR := Lib.hid hr
  have H4 := Lib.hid hs4
  have HVL := Lib.hid hV
  clear hL hS hpr hpl hXV hr hs hs4 hV
  generalize plv a b c L l u p = P at *
  have mk : ∀ W : World, (Instr.makeSlice 23 (.int .i64 0) (.int .i64 4)).run Tryz.prog W = .ok (.slice (some ⟨W.heap.size, 0, none⟩) 0 4) (W.alloc (.cells (madeCells (uc zero).toArray (4 * 5)) 73)) := fun W => by
    have := run_make (P := Tryz.prog) W 23 73 i0 _ Tryz.underlying23 hi hz0 .i64 .i64 0 4 (by omega) (by omega) (by rw [hz2]; omega) (by omega)
    rw [this, hz1]
    rfl
  have MS := Lib.hid (fun W : World => World.ownsRow_made (base := W.heap.size) (e := 73) (size := 5) W (madeCells (uc zero).toArray (4 * 5)) 4 (Nat.le_refl _) (by unfold maxLen; omega) (by simp [madeCells]))
  generalize hSe : sdl a b c p = S at *
  have HSE := Lib.hid hSe
  clear hSe
  go_enter Tryz.func103, Tryz.ntmps103
  go_wp2
  have o0 := MS.out ((w.alloc (.cells #[.slice (some ⟨bl, off, none⟩) L.length cap, .int .i64 l, pv] 122)).alloc (.cells #[.int .i64 u.a, .int .i64 u.b, .int .i64 u.c, .int .i64 u.d, .int .i64 u.n] 73))
  have cb0 := (⟨by simp [go_sem], by simp [go_sem], by simp [go_sem], fun j => by simp [go_sem], by simp <;> omega⟩ : CB ((w.alloc (.cells #[.slice (some ⟨bl, off, none⟩) L.length cap, .int .i64 l, pv] 122)).alloc (.cells #[.int .i64 u.a, .int .i64 u.b, .int .i64 u.c, .int .i64 u.d, .int .i64 u.n] 73)) w.heap.size (.slice (some ⟨bl, off, none⟩) L.length cap) l pv).later ((Below.refl _ _).alloc (Nat.le_refl _) (.cells (madeCells (uc zero).toArray (4 * 5)) 73))
  have ur0 := (⟨by simp [go_sem], by simp [go_sem], by simp [go_sem], by simp [go_sem], by simp [go_sem], by simp⟩ : URead ((w.alloc (.cells #[.slice (some ⟨bl, off, none⟩) L.length cap, .int .i64 l, pv] 122)).alloc (.cells #[.int .i64 u.a, .int .i64 u.b, .int .i64 u.c, .int .i64 u.d, .int .i64 u.n] 73)) (w.heap.size + 1) u).later ((Below.refl _ _).alloc (Nat.le_refl _) (.cells (madeCells (uc zero).toArray (4 * 5)) 73))
  have hB : Below w.heap.size w (((w.alloc (.cells #[.slice (some ⟨bl, off, none⟩) L.length cap, .int .i64 l, pv] 122)).alloc (.cells #[.int .i64 u.a, .int .i64 u.b, .int .i64 u.c, .int .i64 u.d, .int .i64 u.n] 73)).alloc (.cells (madeCells (uc zero).toArray (4 * 5)) 73)) := by repeat (first | (with_reducible exact Below.refl _ _) | (with_reducible refine Below.setCell ?_ ?_ _) | (with_reducible refine Below.drew ?_) | (with_reducible refine Below.alloc ?_ ?_ _) | omega | (simp <;> omega))
  simp only [World.size_alloc] at o0
  go_loopw [8, 10, 11, 12, 21] (fun f _ _ _ q wr => ∃ (k : Nat) (v : Value), k ≤ 4 ∧ q = .int .i64 k ∧ v = f ∧ Hid (wr.ownsRow (w.heap.size + 1 + 1) 73 5 v k (((S.map (sdv L l u)).take k).flatMap uc)) ∧ CB wr w.heap.size (.slice (some ⟨bl, off, none⟩) L.length cap) l pv ∧ URead wr (w.heap.size + 1) u ∧ w.heap.size + 1 + 1 < wr.heap.size ∧ Below w.heap.size w wr) (fun _ _ _ _ q _ => 4 - (intOf q).toNat)
  case atStart => exact ⟨0, _, by omega, rfl, rfl, Lib.hid o0, cb0, ur0, by simp, hB⟩
  case round =>
    obtain ⟨j, v, hj, rfl, rfl, hown, cb, ur, hm, hb⟩ := hrel
    clear o0 cb0 ur0 hB
    have hbs := hb.size
    have CBH := Lib.hid cb
    have URH := Lib.hid ur
    by_cases hlt : j < 4
    · have i1 : (j : Int) < 4 := by omega
      have hx : S[j]? = some (S[j]'(by rw [H4.out]; exact hlt)) := List.getElem?_eq_getElem _
      obtain ⟨q1, q2⟩ := HR.out _ (List.mem_of_getElem? hx)
      obtain ⟨y1, y2⟩ := HSS.out.later hb j _ hx
      have htk := take_flat uc (S.map (sdv L l u)) j (by rw [List.length_map, H4.out]; exact hlt)
      rw [List.getElem_map] at htk
      generalize S[j]'(by rw [H4.out]; exact hlt) = x at *
      obtain ⟨li, bi⟩ := x
      obtain ⟨n, rfl⟩ := Int.eq_ofNat_of_zero_le q1
      have hn : n < L.length := by simp at q2; exact q2
      have hz : L[n]? = some L[n] := List.getElem?_eq_getElem hn
      obtain ⟨l0, l1, l2, l3, l4⟩ := (HLS.out.later hb).atP hz
      have lbl : bl < wr.heap.size := World.block_lt_of_cell? wr _ l0
      have hVx := HVL.out _ (List.mem_of_getElem? hz)
      have hlk := lkv_at (l := l) (u := u) hz
      have hn2 : (n : Int) < L.length := by omega
      simp only [sdv] at htk
      rw [hlk] at htk
      rw [Nat.zero_add] at y1 y2
      simp only at y1 y2
      have lg : g < wr.heap.size := World.block_lt_of_cell? wr _ y1
      obtain ⟨e0, e1, e2, ef, el⟩ := cb
      obtain ⟨u0, u1, u2, u3, u4, ul⟩ := ur
      clear hx q1 q2 hz hlk
      generalize L[n] = z at *
      cases bi with
      | false =>
        by_cases hl : (n : Int) = l
        · have hl' : ((n : Int) == l) = true := by simpa using hl
          rw [if_neg (by decide), if_pos hl] at htk
          have HTK := Lib.hid htk
          clear htk hl
          go_wp2_with (at_builtin; refine wpList_append_own _ rfl (.tmp 47) (.tmp 49) 23 rfl (w.heap.size + 1 + 1) 73 i0 _ 5 40 Tryz.underlying23 hi hz0 hz1 hz2 rfl (by decide) v j (((S.map (sdv L l u)).take j).flatMap uc) rfl (((hown.out.alloc _).alloc _).alloc _) ⟨wr.heap.size + 1 + 1, 0, none⟩ 1 1 (uc u) rfl rfl (five_cells rfl (by simp [go_sem]) (by simp [go_sem]) (by simp [go_sem]) (by simp [go_sem]) (by simp [go_sem])) (five_one rfl) (by unfold maxLen; omega) (by omega) (by simp; omega) ?_; intro v' w4 hown4 hgrow4 _)
          have B1 : Below w.heap.size w (((wr.alloc (.cells #[.int .i64 n, .bool false] 177)).alloc (.cells #[.int .i64 u.a, .int .i64 u.b, .int .i64 u.c, .int .i64 u.d, .int .i64 u.n] 73)).alloc (.cells #[.int .i64 u.a, .int .i64 u.b, .int .i64 u.c, .int .i64 u.d, .int .i64 u.n] 73)) := ((hb.alloc hb.size _).alloc (by simp; omega) _).alloc (by simp; omega) _
          have A1 : Below wr.heap.size wr (((wr.alloc (.cells #[.int .i64 n, .bool false] 177)).alloc (.cells #[.int .i64 u.a, .int .i64 u.b, .int .i64 u.c, .int .i64 u.d, .int .i64 u.n] 73)).alloc (.cells #[.int .i64 u.a, .int .i64 u.b, .int .i64 u.c, .int .i64 u.d, .int .i64 u.n] 73)) := (((Below.refl _ _).alloc (Nat.le_refl _) _).alloc (by simp) _).alloc (by simp; omega) _
          have hfr := owned_from hown.out
          have n1 := owned_ne hown.out (b := w.heap.size) (by omega)
          have n2 := owned_ne hown.out (b := w.heap.size + 1) (by omega)
          have c5 := (CBH.out.later A1).grown hgrow4 n1
          have u5 := (URH.out.later A1).grown hgrow4 n2
          have b5 := B1.grown hgrow4 B1.size (fun i hi => by have := hfr i hi; omega)
          have m5 : w.heap.size + 1 + 1 < w4.heap.size := Nat.lt_of_lt_of_le hm (Nat.le_trans A1.size hgrow4.size)
          have ho : w4.ownsRow (w.heap.size + 1 + 1) 73 5 v' (j + 1) (((S.map (sdv L l u)).take (j + 1)).flatMap uc) := by rw [HTK.out]; exact hown4
          clear hown4 hgrow4 hown CBH URH A1 B1 HTK
          go_wp2
          exact ⟨⟨j + 1, _, by omega, by go_num, rfl, Lib.hid ho, c5, u5, m5, b5⟩, by simp [intOf]; omega⟩
        · have hl' : ((n : Int) == l) = false := by simpa using hl
          rw [if_neg (by decide), if_neg hl] at htk
          have HTK := Lib.hid htk
          clear htk hl
          go_wp2_with (at_builtin; refine wpList_append_own _ rfl (.tmp 47) (.tmp 49) 23 rfl (w.heap.size + 1 + 1) 73 i0 _ 5 40 Tryz.underlying23 hi hz0 hz1 hz2 rfl (by decide) v j (((S.map (sdv L l u)).take j).flatMap uc) rfl (((hown.out.alloc _).alloc _).alloc _) ⟨wr.heap.size + 1 + 1, 0, none⟩ 1 1 (uc z) rfl rfl (five_cells rfl (by simp [go_sem]) (by simp [go_sem]) (by simp [go_sem]) (by simp [go_sem]) (by simp [go_sem])) (five_one rfl) (by unfold maxLen; omega) (by omega) (by simp; omega) ?_; intro v' w4 hown4 hgrow4 _)
          have B1 : Below w.heap.size w (((wr.alloc (.cells #[.int .i64 n, .bool false] 177)).alloc (.cells #[.int .i64 z.a, .int .i64 z.b, .int .i64 z.c, .int .i64 z.d, .int .i64 z.n] 73)).alloc (.cells #[.int .i64 z.a, .int .i64 z.b, .int .i64 z.c, .int .i64 z.d, .int .i64 z.n] 73)) := ((hb.alloc hb.size _).alloc (by simp; omega) _).alloc (by simp; omega) _
          have A1 : Below wr.heap.size wr (((wr.alloc (.cells #[.int .i64 n, .bool false] 177)).alloc (.cells #[.int .i64 z.a, .int .i64 z.b, .int .i64 z.c, .int .i64 z.d, .int .i64 z.n] 73)).alloc (.cells #[.int .i64 z.a, .int .i64 z.b, .int .i64 z.c, .int .i64 z.d, .int .i64 z.n] 73)) := (((Below.refl _ _).alloc (Nat.le_refl _) _).alloc (by simp) _).alloc (by simp; omega) _
          have hfr := owned_from hown.out
          have n1 := owned_ne hown.out (b := w.heap.size) (by omega)
          have n2 := owned_ne hown.out (b := w.heap.size + 1) (by omega)
          have c5 := (CBH.out.later A1).grown hgrow4 n1
          have u5 := (URH.out.later A1).grown hgrow4 n2
          have b5 := B1.grown hgrow4 B1.size (fun i hi => by have := hfr i hi; omega)
          have m5 : w.heap.size + 1 + 1 < w4.heap.size := Nat.lt_of_lt_of_le hm (Nat.le_trans A1.size hgrow4.size)
          have ho : w4.ownsRow (w.heap.size + 1 + 1) 73 5 v' (j + 1) (((S.map (sdv L l u)).take (j + 1)).flatMap uc) := by rw [HTK.out]; exact hown4
          clear hown4 hgrow4 hown CBH URH A1 B1 HTK
          go_wp2
          exact ⟨⟨j + 1, _, by omega, by go_num, rfl, Lib.hid ho, c5, u5, m5, b5⟩, by simp [intOf]; omega⟩
      | true =>
        by_cases hl : (n : Int) = l
        · have hl' : ((n : Int) == l) = true := by simpa using hl
          rw [if_pos rfl, if_pos hl] at htk
          have HTK := Lib.hid htk
          clear htk hl
          have c4 := fun W : World => inv_ok u W hu
          go_wp2_with (first | ((with_reducible refine (c4 _).mono ?_); clear c4; rintro e w2 ⟨rfl, hw2⟩; have hc2 := Tail.cells hw2; have s2 := hw2.size; (try simp at s2); have z2 : wr.heap.size + 1 < w2.heap.size := (by omega); have HNE := Lib.hid (own_ne_new hown.out (Nat.lt_succ_self _))) | (at_builtin; refine wpList_append_own _ rfl (.tmp 47) (.tmp 49) 23 rfl (w.heap.size + 1 + 1) 73 i0 _ 5 40 Tryz.underlying23 hi hz0 hz1 hz2 rfl (by decide) v j (((S.map (sdv L l u)).take j).flatMap uc) rfl (((owned_later ((hown.out.alloc _).alloc _) hw2).kept (grown_setCells (wr.heap.size + 1) [.int .i64 (bar u).a, .int .i64 (bar u).b, .int .i64 (bar u).c, .int .i64 (bar u).d, .int .i64 (bar u).n] 0 w2) (.inr HNE.out)).alloc _) ⟨w2.heap.size, 0, none⟩ 1 1 (uc (bar u)) rfl rfl (five_cells rfl (by simp [go_sem]) (by simp [go_sem]) (by simp [go_sem]) (by simp [go_sem]) (by simp [go_sem])) (five_one rfl) (by unfold maxLen; omega) (by omega) (by have := hw2.size; simp [World.setCells, World.setCell] at this ⊢; omega) ?_; intro v' w4 hown4 hgrow4 _))
          have A0 : Below wr.heap.size wr ((wr.alloc (.cells #[.int .i64 n, .bool true] 177)).alloc (.cells #[.int .i64 u.a, .int .i64 u.b, .int .i64 u.c, .int .i64 u.d, .int .i64 u.n] 73)) := ((Below.refl _ _).alloc (Nat.le_refl _) _).alloc (by simp) _
          have A2 : Below wr.heap.size wr w2 := A0.trans (hw2.mono (by simp; omega))
          have A1 : Below wr.heap.size wr ((w2.setCells (wr.heap.size + 1) 0 [.int .i64 (bar u).a, .int .i64 (bar u).b, .int .i64 (bar u).c, .int .i64 (bar u).d, .int .i64 (bar u).n]).alloc (.cells #[.int .i64 (bar u).a, .int .i64 (bar u).b, .int .i64 (bar u).c, .int .i64 (bar u).d, .int .i64 (bar u).n] 73)) := (A2.grown (grown_setCells (wr.heap.size + 1) [.int .i64 (bar u).a, .int .i64 (bar u).b, .int .i64 (bar u).c, .int .i64 (bar u).d, .int .i64 (bar u).n] 0 w2) A2.size (fun i hi => by simp at hi; omega)).alloc (by have := A2.size; simp [World.setCells, World.setCell]; omega) _
          have B1 : Below w.heap.size w ((w2.setCells (wr.heap.size + 1) 0 [.int .i64 (bar u).a, .int .i64 (bar u).b, .int .i64 (bar u).c, .int .i64 (bar u).d, .int .i64 (bar u).n]).alloc (.cells #[.int .i64 (bar u).a, .int .i64 (bar u).b, .int .i64 (bar u).c, .int .i64 (bar u).d, .int .i64 (bar u).n] 73)) := hb.trans (A1.mono hbs)
          have hfr := owned_from hown.out
          have n1 := owned_ne hown.out (b := w.heap.size) (by omega)
          have n2 := owned_ne hown.out (b := w.heap.size + 1) (by omega)
          have c5 := (CBH.out.later A1).grown hgrow4 n1
          have u5 := (URH.out.later A1).grown hgrow4 n2
          have b5 := B1.grown hgrow4 B1.size (fun i hi => by have := hfr i hi; omega)
          have m5 : w.heap.size + 1 + 1 < w4.heap.size := Nat.lt_of_lt_of_le hm (Nat.le_trans A1.size hgrow4.size)
          have ho : w4.ownsRow (w.heap.size + 1 + 1) 73 5 v' (j + 1) (((S.map (sdv L l u)).take (j + 1)).flatMap uc) := by rw [HTK.out]; exact hown4
          clear hown4 hgrow4 hown CBH URH A1 B1 HTK
          go_wp2
          exact ⟨⟨j + 1, _, by omega, by go_num, rfl, Lib.hid ho, c5, u5, m5, b5⟩, by simp [intOf]; omega⟩
        · have hl' : ((n : Int) == l) = false := by simpa using hl
          rw [if_pos rfl, if_neg hl] at htk
          have HTK := Lib.hid htk
          clear htk hl
          have c4 := fun W : World => inv_ok z W hVx
          go_wp2_with (first | ((with_reducible refine (c4 _).mono ?_); clear c4; rintro e w2 ⟨rfl, hw2⟩; have hc2 := Tail.cells hw2; have s2 := hw2.size; (try simp at s2); have z2 : wr.heap.size + 1 < w2.heap.size := (by omega); have HNE := Lib.hid (own_ne_new hown.out (Nat.lt_succ_self _))) | (at_builtin; refine wpList_append_own _ rfl (.tmp 47) (.tmp 49) 23 rfl (w.heap.size + 1 + 1) 73 i0 _ 5 40 Tryz.underlying23 hi hz0 hz1 hz2 rfl (by decide) v j (((S.map (sdv L l u)).take j).flatMap uc) rfl (((owned_later ((hown.out.alloc _).alloc _) hw2).kept (grown_setCells (wr.heap.size + 1) [.int .i64 (bar z).a, .int .i64 (bar z).b, .int .i64 (bar z).c, .int .i64 (bar z).d, .int .i64 (bar z).n] 0 w2) (.inr HNE.out)).alloc _) ⟨w2.heap.size, 0, none⟩ 1 1 (uc (bar z)) rfl rfl (five_cells rfl (by simp [go_sem]) (by simp [go_sem]) (by simp [go_sem]) (by simp [go_sem]) (by simp [go_sem])) (five_one rfl) (by unfold maxLen; omega) (by omega) (by have := hw2.size; simp [World.setCells, World.setCell] at this ⊢; omega) ?_; intro v' w4 hown4 hgrow4 _))
          have A0 : Below wr.heap.size wr ((wr.alloc (.cells #[.int .i64 n, .bool true] 177)).alloc (.cells #[.int .i64 z.a, .int .i64 z.b, .int .i64 z.c, .int .i64 z.d, .int .i64 z.n] 73)) := ((Below.refl _ _).alloc (Nat.le_refl _) _).alloc (by simp) _
          have A2 : Below wr.heap.size wr w2 := A0.trans (hw2.mono (by simp; omega))
          have A1 : Below wr.heap.size wr ((w2.setCells (wr.heap.size + 1) 0 [.int .i64 (bar z).a, .int .i64 (bar z).b, .int .i64 (bar z).c, .int .i64 (bar z).d, .int .i64 (bar z).n]).alloc (.cells #[.int .i64 (bar z).a, .int .i64 (bar z).b, .int .i64 (bar z).c, .int .i64 (bar z).d, .int .i64 (bar z).n] 73)) := (A2.grown (grown_setCells (wr.heap.size + 1) [.int .i64 (bar z).a, .int .i64 (bar z).b, .int .i64 (bar z).c, .int .i64 (bar z).d, .int .i64 (bar z).n] 0 w2) A2.size (fun i hi => by simp at hi; omega)).alloc (by have := A2.size; simp [World.setCells, World.setCell]; omega) _
          have B1 : Below w.heap.size w ((w2.setCells (wr.heap.size + 1) 0 [.int .i64 (bar z).a, .int .i64 (bar z).b, .int .i64 (bar z).c, .int .i64 (bar z).d, .int .i64 (bar z).n]).alloc (.cells #[.int .i64 (bar z).a, .int .i64 (bar z).b, .int .i64 (bar z).c, .int .i64 (bar z).d, .int .i64 (bar z).n] 73)) := hb.trans (A1.mono hbs)
          have hfr := owned_from hown.out
          have n1 := owned_ne hown.out (b := w.heap.size) (by omega)
          have n2 := owned_ne hown.out (b := w.heap.size + 1) (by omega)
          have c5 := (CBH.out.later A1).grown hgrow4 n1
          have u5 := (URH.out.later A1).grown hgrow4 n2
          have b5 := B1.grown hgrow4 B1.size (fun i hi => by have := hfr i hi; omega)
          have m5 : w.heap.size + 1 + 1 < w4.heap.size := Nat.lt_of_lt_of_le hm (Nat.le_trans A1.size hgrow4.size)
          have ho : w4.ownsRow (w.heap.size + 1 + 1) 73 5 v' (j + 1) (((S.map (sdv L l u)).take (j + 1)).flatMap uc) := by rw [HTK.out]; exact hown4
          clear hown4 hgrow4 hown CBH URH A1 B1 HTK
          go_wp2
          exact ⟨⟨j + 1, _, by omega, by go_num, rfl, Lib.hid ho, c5, u5, m5, b5⟩, by simp [intOf]; omega⟩
    · obtain rfl : j = 4 := by omega
      obtain ⟨gv, cv, rfl, hgv⟩ := owned5_some hown.out (by omega)
      have hli : Lies wr gv 0 (S.map (sdv L l u)) := owned_lies (T := 73) (base := w.heap.size + 1 + 1) (cap := cv) (by
        have := hown.out
        rw [List.take_of_length_le (by rw [List.length_map, H4.out]; exact Nat.le_refl _)] at this
        rw [List.length_map, H4.out]
        exact this)
      have HLI := Lib.hid hli
      clear hown hli cb ur
      go_wp2_with (first | ((with_reducible refine (c1 _ _ _ HLI.out).mono ?_); clear c1; rintro e w2 ⟨rfl, hw2⟩; have hc2 := Tail.cells hw2) | ((with_reducible refine (c2 _).mono ?_); clear c2; rintro e w3 ⟨rfl, hw3⟩; have hc3 := Tail.cells hw3))
      go_ret2
      refine ⟨by rw [← HT.out]; rfl, ?_⟩
      repeat (first | (with_reducible exact Below.refl _ _) | (with_reducible refine Below.setCell ?_ ?_ _) | (with_reducible refine Below.drew ?_) | (with_reducible refine Below.alloc ?_ ?_ _) | (with_reducible refine Below.trans ?_ (Below.mono hw3 ?_)) | (with_reducible refine Below.trans ?_ (Below.mono hw2 ?_)) | (with_reducible refine Below.trans ?_ (Below.mono hb ?_)) | (with_reducible exact hw3.size) | (with_reducible exact hw2.size) | (with_reducible exact hb.size) | omega | (simp <;> omega) | (simp <;> (have s := hw3.size; omega)) | (simp <;> (have s := hw2.size; omega)) | (simp <;> (have s := hb.size; omega)) | (have s0 := hw3.size; (try simp at s0); have s1 := hw2.size; (try simp at s1); have s2 := hb.size; (try simp at s2); (try simp); omega))
end Go.Proofs.YtpfhjdmgkckjfaaGreatDoor
