/- A link with the sides of each of its plaquettes, as the program makes it.
Conditions: those written at each theorem; the variable steps holds what the program's text lays. -/
import Derived.Test.YtpfhjdmgkckjfaaGreatDoorASidC
import Derived.Test.YtpfhjdmgkckjfaaGreatDoorAThrC
namespace Go.Proofs.YtpfhjdmgkckjfaaGreatDoor
set_option linter.unusedVariables false
set_option linter.unusedSimpArgs false
set_option maxRecDepth 1000000
open Go.RowKit
open Um Tm Cm

/-- a crossing in a box, to be read and written -/
structure CB (w : World) (m : Nat) (ls : Value) (l : Int) (v : Value) : Prop where
  c0 : w.cell? ⟨m, 0, none⟩ = some ls
  c1 : w.cell? ⟨m, 1, none⟩ = some (.int .i64 l)
  c2 : w.cell? ⟨m, 2, none⟩ = some v
  free : ∀ j, w.frozen? ⟨m, j, none⟩ = false
  lt : m < w.heap.size
theorem CB.later {w w1 : World} {m : Nat} {ls : Value} {l : Int} {v : Value} (h : CB w m ls l v) (hb : Below w.heap.size w w1) : CB w1 m ls l v :=
  ⟨(hb.cell h.lt).trans h.c0, (hb.cell h.lt).trans h.c1, (hb.cell h.lt).trans h.c2, fun j => (hb.frozen (p := ⟨m, j, none⟩) h.lt).trans (h.free j), Nat.lt_of_lt_of_le h.lt hb.size⟩
theorem CB.grown {w w1 : World} {m : Nat} {ls : Value} {l : Int} {v : Value} {row : Option Nat} (h : CB w m ls l v) (hg : w.grownBy w1 row) (hne : some m ≠ row) : CB w1 m ls l v :=
  ⟨hg.cell h.c0 hne, hg.cell h.c1 hne, hg.cell h.c2 hne, fun j => (World.frozen?_of_block (a := ⟨m, j, none⟩) (hg.block m h.lt hne)).trans (h.free j), Nat.lt_of_lt_of_le h.lt hg.size⟩
theorem CB.set2 {w : World} {m : Nat} {ls : Value} {l : Int} {v : Value} (h : CB w m ls l v) (u : Value) : CB (w.setCell ⟨m, 2, none⟩ u) m ls l u :=
  ⟨(World.cell?_setCell_other _ _ _ _ (by simp)).trans h.c0, (World.cell?_setCell_other _ _ _ _ (by simp)).trans h.c1, World.cell?_setCell_same _ _ _ h.c2, fun j => by rw [World.frozen?_setCell]; exact h.free j, by simp [World.setCell]; exact h.lt⟩
/-- the sides of plaquettes, one list behind the other -/
def PLs (a b c : Int) (w : World) (xs : List Value) (ps : List Int) : Prop := xs.length = ps.length ∧ ∀ (i : Nat) (p : Int), ps[i]? = some p → ∃ g k : Nat, xs[i]? = some (.slice (some ⟨g, 0, none⟩) 4 k) ∧ LiesS w g 0 (sdl a b c p)
theorem PLs.later {a b c : Int} {w w1 : World} {xs : List Value} {ps : List Int} (h : PLs a b c w xs ps) (hb : Below w.heap.size w w1) : PLs a b c w1 xs ps :=
  ⟨h.1, fun i p hp => by obtain ⟨g, k, h1, h2⟩ := h.2 i p hp; exact ⟨g, k, h1, h2.later hb⟩⟩
theorem sdl_some (a b c p : Int) : ∃ l0, (sdl a b c p)[0]? = some (l0, false) := ⟨_, rfl⟩
/-- sides don't lie in a block that begins with a slice -/
theorem lies_ne {a b c p : Int} {w : World} {g m : Nat} {ao : Option Addr} {n k : Nat} (h : LiesS w g 0 (sdl a b c p)) (hm : w.cell? ⟨m, 0, none⟩ = some (.slice ao n k)) : g ≠ m := by
  rintro rfl
  obtain ⟨l0, hl⟩ := sdl_some a b c p
  have := (h 0 _ hl).1
  rw [show 0 + 0 * 2 = 0 from rfl, hm] at this
  simp at this
theorem LiesS.grown {w w1 : World} {b off : Nat} {S : List (Int × Bool)} {row : Option Nat} (h : LiesS w b off S) (hg : w.grownBy w1 row) (hne : some b ≠ row) : LiesS w1 b off S := fun i x hx => ⟨hg.cell (h i x hx).1 hne, hg.cell (h i x hx).2 hne⟩
theorem PLs.grown {a b c : Int} {w w1 : World} {xs : List Value} {ps : List Int} {base : Nat} {T : TypeId} {v : Value} {n : Nat} (h : PLs a b c w xs ps) (ho : w.ownsRow base T 1 v n xs) (hg : w.grownBy w1 v.ownBlock) : PLs a b c w1 xs ps :=
  ⟨h.1, fun i p hp => by
    obtain ⟨g, k, h1, h2⟩ := h.2 i p hp
    refine ⟨g, k, h1, h2.grown hg ?_⟩
    rcases ho.2 with ⟨rfl, h0⟩ | ⟨g', cap, cur, rfl, hb, hgg, hcap⟩
    · simp [Value.ownBlock]
    · simp only [Value.ownBlock, ne_eq, Option.some.injEq]
      have hlen := ho.1
      have hi : i < xs.length := (List.getElem?_eq_some_iff.1 h1).1
      have h0 : 0 < n := by rcases Nat.eq_zero_or_pos n with h | h; (subst h; omega); exact h
      obtain ⟨q, hq⟩ : ∃ q, ps[0]? = some q := by
        have : 0 < ps.length := by rw [← h.1]; omega
        exact ⟨_, List.getElem?_eq_getElem this⟩
      obtain ⟨g2, k2, h3, -⟩ := h.2 0 q hq
      have := ho.cellAt 0 (by omega)
      rw [h3] at this
      exact lies_ne h2 this⟩
theorem PLs.set {a b c : Int} {w : World} {xs : List Value} {ps : List Int} {m j : Nat} {ao : Option Addr} {n k : Nat} {u : Value} (h : PLs a b c w xs ps) (hm : w.cell? ⟨m, 0, none⟩ = some (.slice ao n k)) : PLs a b c (w.setCell ⟨m, j, none⟩ u) xs ps :=
  ⟨h.1, fun i p hp => by
    obtain ⟨g, k, h1, h2⟩ := h.2 i p hp
    have hne := lies_ne h2 hm
    exact ⟨g, k, h1, h2.grown (grown_setCell w ⟨m, j, none⟩ u) (by simp; exact hne)⟩⟩
theorem PLs.off {a b c : Int} {w w1 : World} {xs : List Value} {ps : List Int} {m : Nat} {ao : Option Addr} {n k : Nat} (h : PLs a b c w xs ps) (hm : w.cell? ⟨m, 0, none⟩ = some (.slice ao n k)) (hg : w.grownBy w1 (some m)) : PLs a b c w1 xs ps :=
  ⟨h.1, fun i p hp => by
    obtain ⟨g, k, h1, h2⟩ := h.2 i p hp
    have hne := lies_ne h2 hm
    exact ⟨g, k, h1, h2.grown hg (by simp; exact hne)⟩⟩
theorem PLs.offI {a b c : Int} {w w1 : World} {xs : List Value} {ps : List Int} {m : Nat} {kd : IntKind} {n : Int} (h : PLs a b c w xs ps) (hm : w.cell? ⟨m, 1, none⟩ = some (.int kd n)) (hg : w.grownBy w1 (some m)) : PLs a b c w1 xs ps :=
  ⟨h.1, fun i p hp => by
    obtain ⟨g, k, h1, h2⟩ := h.2 i p hp
    refine ⟨g, k, h1, h2.grown hg ?_⟩
    simp only [ne_eq, Option.some.injEq]
    rintro rfl
    obtain ⟨l0, hl⟩ := sdl_some a b c p
    have := (h2 0 _ hl).2
    rw [show 0 + 0 * 2 + 1 = 1 from rfl, hm] at this
    simp at this⟩
theorem PLs.snoc {a b c : Int} {w : World} {xs : List Value} {ps : List Int} {g k : Nat} {p : Int} (h : PLs a b c w xs ps) (hs : LiesS w g 0 (sdl a b c p)) : PLs a b c w (xs ++ [.slice (some ⟨g, 0, none⟩) 4 k]) (ps ++ [p]) := by
  refine ⟨by simp [h.1], fun i q hq => ?_⟩
  by_cases hi : i < ps.length
  · rw [List.getElem?_append_left hi] at hq
    obtain ⟨g', k', h1, h2⟩ := h.2 i q hq
    exact ⟨g', k', by rw [List.getElem?_append_left (by rw [h.1]; exact hi)]; exact h1, h2⟩
  · rw [List.getElem?_append_right (by omega)] at hq
    have hi0 : i - ps.length = 0 := by
      rcases Nat.eq_zero_or_pos (i - ps.length) with h0 | h0
      · exact h0
      · rw [List.getElem?_eq_none (by simp; omega)] at hq; simp at hq
    rw [hi0] at hq
    simp at hq
    subst hq
    exact ⟨g, k, by rw [List.getElem?_append_right (by rw [h.1]; omega), h.1, hi0]; rfl, hs⟩
theorem owned1_some {w : World} {base : Nat} {T : TypeId} {v : Value} {n : Nat} {xs : List Value} (h : w.ownsRow base T 1 v n xs) (hn : 0 < n) : ∃ g cap, v = .slice (some ⟨g, 0, none⟩) n cap ∧ base ≤ g := by
  rcases h.2 with ⟨rfl, h0⟩ | ⟨g, cap, cur, rfl, hg, _⟩
  · omega
  · exact ⟨g, cap, rfl, hg⟩
theorem owned_lt1 {w : World} {base : Nat} {T : TypeId} {size n m g cap : Nat} {xs : List Value} (h : w.ownsRow base T size (.slice (some ⟨g, 0, none⟩) n cap) m xs) : g < w.heap.size := by
  rcases h.2 with ⟨h', _⟩ | ⟨g', cap', cur, h', _, hg, _⟩
  · simp at h'
  · simp only [Value.slice.injEq, Option.some.injEq, Addr.mk.injEq, and_true, true_and] at h'
    obtain ⟨rfl, -⟩ := h'
    exact (Array.getElem?_eq_some_iff.1 hg).1
theorem infoP : (Tryz.prog.info? 144).map (fun i => (i.zero, i.size, i.bytes)) = some (some (.slice none 0 0), 1, 24) := by kernel_rfl
theorem one_sl (ao : Option Addr) (n k : Nat) : ∀ u ∈ [Value.slice ao n k], u.oneCell' = true := fun u hu => by
  simp at hu
  subst hu
  rfl
def RetC (m : Nat) (a b c : Int) (ls : Value) (l : Int) (ps : List Int) (e : Ending) (w' : World) : Prop := ∃ (ao : Option Addr) (k : Nat) (xs : List Value), e = .returned (.tuple #[.agg #[ls, .int .i64 l, .slice ao ps.length k], .int .i64 0]) ∧ PLs a b c w' xs ps ∧ (∀ (i : Nat) (x : Value), xs[i]? = some x → ∃ b off, ao = some ⟨b, off, none⟩ ∧ w'.cell? ⟨b, off + i, none⟩ = some x) ∧ ∀ d, ao = some d → m ≤ d.block
set_option maxHeartbeats 3200000 in
theorem crossing_ok (a b c l : Int) (fo : Option Addr) (n cap : Nat) (w : World) (hz : Sz a b c) (h0 : 0 ≤ l) (h1 : l < 3 * (a * b * c)) (hst : StA w) : Calls Tryz.prog 78 #[.agg #[.int .i64 a, .int .i64 b, .int .i64 c, .slice fo n cap], .int .i64 l] w fun e w' => RetC w.heap.size a b c (.slice fo n cap) l (thr a b c l) e w' ∧ Below w.heap.size w w' := by
  obtain ⟨i0, hi, hz0, hz1, hz2⟩ := info_parts infoP
  have c1 := fun W : World => through_ok a b c l W hz h0 h1
  have c2 := fun (p : Int) (W : World) (hp0 : 0 ≤ p) (hp1 : p < 3 * (a * b * c)) hs => sidesOf_any a b c p W hz hp0 hp1 hs
  have HP := Lib.hid (fun (i : Nat) (p : Int) (h : (thr a b c l)[i]? = some p) => thr_rng h)
  have hp4 := hz.p
  have hlen : (thr a b c l).length ≤ 48 := by
    have h1 : (thr a b c l).length ≤ (3 * (a * b * c)).toNat := by
      unfold thr
      exact Nat.le_trans (List.length_filter_le _ _) (by simp)
    omega
  have hst1 := hst.later ((Below.refl _ _).alloc (Nat.le_refl _) (.cells #[.int .i64 a, .int .i64 b, .int .i64 c, .slice fo n cap] 25))
  have hst2 := Lib.hid (hst1.later ((Below.refl _ _).alloc (Nat.le_refl _) (.cells #[.slice none 0 0, .int .i64 0, .slice none 0 0] 122)))
  have HST := Lib.hid hst
  have hw0 := hst.lt
  clear hz h0 h1 hst hst1 hp4 hst2
  obtain ⟨T, hT⟩ : ∃ T, thr a b c l = T := ⟨_, rfl⟩
  rw [hT] at c1 HP hlen
  have HTE := Lib.hid hT
  clear hT
  go_enter Tryz.func78, Tryz.ntmps78
  go_wp2_with ((with_reducible refine (c1 _).mono ?_); clear c1; rintro e w1 ⟨g, k, rfl, hl, hg, hw1⟩; have hc1 := Tail.cells hw1; have HL := Lib.hid hl; clear hl; have zw10 := Nat.lt_of_lt_of_le (n := w.heap.size) (by simp <;> omega) hw1.size; have zw11 := Nat.lt_of_lt_of_le (n := w.heap.size + 1) (by simp <;> omega) hw1.size)
  have hs1 := hw1.size
  simp at hs1
  have hfb := (((⟨by simp [go_sem], by simp [go_sem], by simp [go_sem], by simp <;> omega⟩ : ABox ((w.alloc (.cells #[.int .i64 a, .int .i64 b, .int .i64 c, .slice fo n cap] 25)).alloc (.cells #[.slice none 0 0, .int .i64 0, .slice none 0 0] 122)) w.heap.size a b c).later hw1).later ((Below.refl _ _).alloc (Nat.le_refl _) (.cells #[.slice fo n cap, .int .i64 l, .slice none 0 0] 122)))
  have hrb := (((⟨by simp [go_sem], by simp [go_sem], by simp [go_sem], fun j => by simp [go_sem], by simp⟩ : CB ((w.alloc (.cells #[.int .i64 a, .int .i64 b, .int .i64 c, .slice fo n cap] 25)).alloc (.cells #[.slice none 0 0, .int .i64 0, .slice none 0 0] 122)) (w.heap.size + 1) (.slice none 0 0) 0 (.slice none 0 0)).later hw1).later ((Below.refl _ _).alloc (Nat.le_refl _) (.cells #[.slice fo n cap, .int .i64 l, .slice none 0 0] 122)))
  have hcb : CB (w1.alloc (.cells #[.slice fo n cap, .int .i64 l, .slice none 0 0] 122)) w1.heap.size (.slice fo n cap) l (.slice none 0 0) := ⟨by simp [go_sem], by simp [go_sem], by simp [go_sem], fun j => by simp [go_sem], by simp⟩
  have hli := HL.out.later ((Below.refl _ _).alloc (Nat.le_refl _) (.cells #[.slice fo n cap, .int .i64 l, .slice none 0 0] 122))
  have hgl : T = [] ∨ g < w1.heap.size := by
    cases hT0 : T with
    | nil => exact .inl rfl
    | cons x xs => exact .inr (World.block_lt_of_cell? w1 _ (HL.out 0 x (by rw [hT0]; rfl)))
  have hB : Below w.heap.size w (w1.alloc (.cells #[.slice fo n cap, .int .i64 l, .slice none 0 0] 122)) := by repeat (first | (with_reducible exact Below.refl _ _) | (with_reducible refine Below.setCell ?_ ?_ _) | (with_reducible refine Below.drew ?_) | (with_reducible refine Below.alloc ?_ ?_ _) | (with_reducible refine Below.trans ?_ (Below.mono hw1 ?_)) | (with_reducible exact hw1.size) | omega | (simp <;> omega) | (simp <;> (have s := hw1.size; omega)) | (have s0 := hw1.size; (try simp at s0); (try simp); omega))
  have hp0 : PLs a b c (w1.alloc (.cells #[.slice fo n cap, .int .i64 l, .slice none 0 0] 122)) [] (T.take 0) := ⟨rfl, fun i p hp => by simp at hp⟩
  have hsz : w1.heap.size < (w1.alloc (.cells #[.slice fo n cap, .int .i64 l, .slice none 0 0] 122)).heap.size := by simp
  clear HL hw1 hc1 zw10 zw11
  generalize w1.heap.size = m at *
  go_loopw [10, 11, 12, 30] (fun _ _ _ q wr => ∃ (k : Nat) (v : Value) (xs : List Value), k ≤ T.length ∧ q = .int .i64 k ∧ Hid (wr.ownsRow (m + 1) 144 1 v k xs) ∧ Hid (PLs a b c wr xs (T.take k)) ∧ ABox wr w.heap.size a b c ∧ CB wr (w.heap.size + 1) (.slice none 0 0) 0 (.slice none 0 0) ∧ CB wr m (.slice fo n cap) l v ∧ LiesI wr g 0 T ∧ m < wr.heap.size ∧ Below w.heap.size w wr) (fun _ _ _ q _ => T.length - (intOf q).toNat)
  case atStart => exact ⟨0, _, _, by omega, rfl, Lib.hid (World.ownsRow_nil _ _ _ _), Lib.hid hp0, hfb, hrb, hcb, hli, hsz, hB⟩
  case round =>
    obtain ⟨k, v, xs, hk, rfl, hown, hpl, fb, rb, cb, li, hm, hb⟩ := hrel
    clear hfb hrb hcb hli hB hp0 hsz
    have hbs := hb.size
    have FB := Lib.hid fb
    have RB := Lib.hid rb
    have CBH := Lib.hid cb
    have LI := Lib.hid li
    by_cases hlt : k < T.length
    · have i1 : (k : Int) < (T.length : Int) := by omega
      have hx : T[k]? = some T[k] := List.getElem?_eq_getElem hlt
      have hgm : g < m := by
        rcases hgl with h | h
        · subst h; simp at hlt
        · exact h
      have x1 := LI.out k _ hx
      rw [Nat.zero_add] at x1
      obtain ⟨r1, r2⟩ := HP.out k _ hx
      have c3 := fun W hs => c2 T[k] W r1 r2 hs
      have htk := List.take_succ_eq_append_getElem hlt
      have HTK := Lib.hid htk
      obtain ⟨d0, d1, d2, dl⟩ := fb
      have st := Lib.hid (HST.out.later hb)
      clear hx r1 r2 htk rb cb li c2
      generalize T[k] = p at *
      go_wp2_with (first | ((with_reducible refine (c3 _ st.out).mono ?_); clear c3; rintro e w2 ⟨⟨gs, ks, rfl, hs, hgs⟩, hw2⟩; have HS := Lib.hid hs; obtain ⟨e0, e1, e2, ef, el⟩ := CBH.out.later hw2; have CB2 := Lib.hid (CBH.out.later hw2); clear hs) | (at_builtin; refine wpList_append_own _ rfl (.tmp 46) (.tmp 48) 120 rfl (m + 1) 144 i0 _ 1 24 Tryz.underlying120 hi hz0 hz1 hz2 rfl (by decide) v k xs rfl ((owned_later hown.out hw2).alloc _) ⟨w2.heap.size, 0, none⟩ 1 1 [.slice (some ⟨gs, 0, none⟩) 4 ks] rfl rfl (one_cell (by simp [go_sem])) (one_sl _ _ _) (by unfold maxLen; omega) (by omega) (by have := hw2.size; simp; omega) ?_; intro v' w4 hown4 hgrow4 _; obtain ⟨gv, cv, rfl, hgv⟩ := owned1_some hown4 (by omega); have hfr := owned_from hown.out; have nm := owned_ne hown.out (b := m) (by omega); have CB4 := Lib.hid ((CB2.out.later ((Below.refl _ _).alloc (Nat.le_refl _) (.cells #[.slice (some ⟨gs, 0, none⟩) 4 ks] 144))).grown hgrow4 nm); clear e0 e1 e2 ef el; obtain ⟨e0, e1, e2, ef, el⟩ := CB4.out))
      have hs2 := hw2.size
      have AL := (Below.refl w2.heap.size w2).alloc (Nat.le_refl _) (.cells #[.slice (some ⟨gs, 0, none⟩) 4 ks] 144)
      have n1 := owned_ne hown.out (b := w.heap.size) (by omega)
      have n2 := owned_ne hown.out (b := w.heap.size + 1) (by omega)
      have n3 := owned_ne hown.out (b := g) (by omega)
      have G5 := grown_setCell w4 ⟨m, 2, none⟩ (.slice (some ⟨gv, 0, none⟩) (k + 1) cv)
      have o2 := (owned_later hown.out hw2).alloc (.cells #[.slice (some ⟨gs, 0, none⟩) 4 ks] 144)
      have hgs' : g ≠ m := by omega
      have p2 := (hpl.out.later hw2).later AL
      have p4 := p2.grown o2 hgrow4
      have s4 : LiesS w4 gs 0 (sdl a b c p) := (HS.out.later AL).grown hgrow4 (by
        rcases hown.out.2 with ⟨rfl, -⟩ | ⟨g', cap', cur, rfl, hb', hgg, -⟩
        · simp [Value.ownBlock]
        · simp only [Value.ownBlock, ne_eq, Option.some.injEq]
          have hl3 := (owned_lt1 hown.out)
          omega)
      have p5 := (p4.snoc s4 (k := ks)).set (m := m) (j := 2) (u := .slice (some ⟨gv, 0, none⟩) (k + 1) cv) e0
      have f5 := (((FB.out.later hw2).later AL).grown hgrow4 n1).grown G5 (by simp; omega)
      have r5 := (((RB.out.later hw2).later AL).grown hgrow4 n2).grown G5 (by simp; omega)
      have l5 := (((LI.out.later hw2).later AL).grown hgrow4 n3).grown G5 (by simp; omega)
      have c5 := CB4.out.set2 (.slice (some ⟨gv, 0, none⟩) (k + 1) cv)
      have b5 := ((((hb.trans (hw2.mono hbs)).alloc (by omega) (.cells #[.slice (some ⟨gs, 0, none⟩) 4 ks] 144)).grown hgrow4 (by simp; omega) (fun j hj => by have := hfr j hj; omega))).setCell (p := ⟨m, 2, none⟩) (by show w.heap.size ≤ m; omega) (.slice (some ⟨gv, 0, none⟩) (k + 1) cv)
      have o5 := hown4.kept G5 (.inr (by simp [Value.ownBlock]; omega))
      have m5 : m < (w4.setCell ⟨m, 2, none⟩ (.slice (some ⟨gv, 0, none⟩) (k + 1) cv)).heap.size := by simp [World.setCell]; exact el
      rw [← HTK.out] at p5
      clear hown4 hgrow4 hown hw2 p2 p4 s4 G5 AL o2 CB4 CB2 FB RB CBH LI n1 n2 n3 e0 e1 e2 ef el
      exact ⟨⟨k + 1, _, _, by omega, by go_num, Lib.hid o5, Lib.hid p5, f5, r5, c5, l5, m5, b5⟩, by simp [intOf]; omega⟩
    · obtain rfl : k = T.length := by omega
      have hpl' : PLs a b c wr xs T := by have := hpl.out; rwa [List.take_length] at this
      have HPL := Lib.hid hpl'
      have HOWN := Lib.hid hown.out
      have hmw : w.heap.size + 2 ≤ m := by omega
      clear hpl hpl' fb li
      rcases hown.out.2 with ⟨rfl, h0⟩ | ⟨gv, cv, cur, rfl, hgv, -⟩
      · obtain ⟨e0, e1, e2, ef, el⟩ := cb
        obtain ⟨d0, d1, d2, df, dl⟩ := rb
        clear hown
        go_wp2
        have G1 := grown_setCells (w.heap.size + 1) [.slice fo n cap, .int .i64 l, .slice none 0 0] 0 wr
        refine bodyPost_ret (v := .tuple #[.agg #[.slice fo n cap, .int .i64 l, .slice none T.length 0], .int .i64 0]) ?_ rfl ⟨⟨none, 0, xs, by rw [HTE.out], by rw [HTE.out]; exact HPL.out.off d0 G1, fun i x hx => ?_, fun d hd => by simp at hd⟩, ?_⟩
        · simp [results, Tryz.results78, go_sem, d0, d1, d2, dl, h0]
        · have := HOWN.out.1
          have := (List.getElem?_eq_some_iff.1 hx).1
          omega
        · repeat (first | (with_reducible exact Below.refl _ _) | (with_reducible refine Below.setCell ?_ ?_ _) | (with_reducible refine Below.drew ?_) | (with_reducible refine Below.alloc ?_ ?_ _) | (with_reducible refine Below.trans ?_ (Below.mono hb ?_)) | (with_reducible exact hb.size) | omega | (simp <;> omega) | (simp <;> (have s := hb.size; omega)) | (have s0 := hb.size; (try simp at s0); (try simp); omega))
      · obtain ⟨e0, e1, e2, ef, el⟩ := cb
        obtain ⟨d0, d1, d2, df, dl⟩ := rb
        clear hown
        go_wp2
        have G1 := grown_setCells (w.heap.size + 1) [.slice fo n cap, .int .i64 l, .slice (some ⟨gv, 0, none⟩) T.length cv] 0 wr
        refine bodyPost_ret (v := .tuple #[.agg #[.slice fo n cap, .int .i64 l, .slice (some ⟨gv, 0, none⟩) T.length cv], .int .i64 0]) ?_ rfl ⟨⟨some ⟨gv, 0, none⟩, cv, xs, by rw [HTE.out], by rw [HTE.out]; exact HPL.out.off d0 G1, fun i x hx => ⟨gv, 0, rfl, ?_⟩, fun d hd => by simp at hd; subst hd; show w.heap.size ≤ gv; omega⟩, ?_⟩
        · simp [results, Tryz.results78, go_sem, d0, d1, d2, dl]
        · have hl := HOWN.out.1
          have hi := (List.getElem?_eq_some_iff.1 hx).1
          refine G1.cell ?_ (by simp; omega)
          rw [Nat.zero_add, HOWN.out.cellAt i (by omega)]
          exact hx
        · repeat (first | (with_reducible exact Below.refl _ _) | (with_reducible refine Below.setCell ?_ ?_ _) | (with_reducible refine Below.drew ?_) | (with_reducible refine Below.alloc ?_ ?_ _) | (with_reducible refine Below.trans ?_ (Below.mono hb ?_)) | (with_reducible exact hb.size) | omega | (simp <;> omega) | (simp <;> (have s := hb.size; omega)) | (have s0 := hb.size; (try simp at s0); (try simp); omega))
end Go.Proofs.YtpfhjdmgkckjfaaGreatDoor
