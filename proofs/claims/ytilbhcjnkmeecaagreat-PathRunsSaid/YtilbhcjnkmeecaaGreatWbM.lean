/- Blocks that may be written, and momenta in new memory.
Conditions: those written at each theorem. -/
import Derived.Test.YtilbhcjnkmeecaaGreatKorB
import Derived.Test.YtilbhcjnkmeecaaGreatWlk
import Derived.Lib.SlFresh
import Derived.Test.YtilbhcjnkmeecaaGreatLawValF
namespace Go.Proofs.YtilbhcjnkmeecaaGreat
set_option linter.unusedVariables false
set_option linter.unusedSimpArgs false
set_option maxRecDepth 1000000
open Go.RowKit
open Um Tm Cm Km

/-- a block of n cells that may be written, whatever they hold -/
structure WB (w : World) (g n : Nat) : Prop where
  c : ∀ i, i < n → ∃ v, w.cell? ⟨g, i, none⟩ = some v
  free : ∀ j, w.frozen? ⟨g, j, none⟩ = false
  lt : g < w.heap.size
theorem WB.later {w w1 : World} {g n : Nat} (k : WB w g n) (hb : Below w.heap.size w w1) : WB w1 g n :=
  ⟨fun i hi => by obtain ⟨v, hv⟩ := k.c i hi; exact ⟨v, (hb.cell k.lt).trans hv⟩, fun j => (hb.frozen (p := ⟨g, j, none⟩) k.lt).trans (k.free j), Nat.lt_of_lt_of_le k.lt hb.size⟩
theorem WB.put {w : World} {g n : Nat} (k : WB w g n) (i : Nat) (v : Value) : WB (w.setCell ⟨g, i, none⟩ v) g n :=
  ⟨fun j hj => by
    obtain ⟨u, hu⟩ := k.c j hj
    by_cases h : i = j
    · subst h; exact ⟨v, World.cell?_setCell_same _ _ _ hu⟩
    · exact ⟨u, (World.cell?_setCell_other _ _ _ _ (by simp; try omega)).trans hu⟩, fun j => by rw [World.frozen?_setCell]; exact k.free j, by simp [World.setCell]; exact k.lt⟩
theorem WB.far {w w1 : World} {g n : Nat} {row : Option Nat} (k : WB w g n) (hg : w.grownBy w1 row) (hne : some g ≠ row) : WB w1 g n :=
  ⟨fun i hi => by obtain ⟨v, hv⟩ := k.c i hi; exact ⟨v, hg.cell hv hne⟩, fun j => (World.frozen?_of_block (a := ⟨g, j, none⟩) (hg.block g k.lt hne)).trans (k.free j), Nat.lt_of_lt_of_le k.lt hg.size⟩
theorem LBox.wb {w : World} {g : Nat} {M : List Q} (k : LBox w g M) : WB w g (M.length * 5) :=
  ⟨fun i hi => by
    have hx : M[i / 5]? = some (M[i / 5]'(by omega)) := List.getElem?_eq_getElem (by omega)
    obtain ⟨h0, h1, h2, h3, h4⟩ := k.at hx
    have hr : i % 5 = 0 ∨ i % 5 = 1 ∨ i % 5 = 2 ∨ i % 5 = 3 ∨ i % 5 = 4 := by omega
    rcases hr with h | h | h | h | h
    · rw [show i = i / 5 * 5 by omega]; exact ⟨_, h0⟩
    · rw [show i = i / 5 * 5 + 1 by omega]; exact ⟨_, h1⟩
    · rw [show i = i / 5 * 5 + 2 by omega]; exact ⟨_, h2⟩
    · rw [show i = i / 5 * 5 + 3 by omega]; exact ⟨_, h3⟩
    · rw [show i = i / 5 * 5 + 4 by omega]; exact ⟨_, h4⟩, k.free, k.lt⟩
theorem IBox.wb {w : World} {g : Nat} {l : List Int} (k : IBox w g l) : WB w g l.length :=
  ⟨fun i hi => ⟨_, k.at (List.getElem?_eq_getElem hi)⟩, k.free, k.lt⟩

theorem run_append_none_capK {P : Program} {w : World} (base : Nat) (t ty e : TypeId) (i : TypeInfo) (size c : Nat) (ht : P.underlying t = some (.slice e)) (hi : P.info? e = some i)
    (v : Value) (n : Nat) (xs : List Value) (hown : w.ownsRow base e size v n xs) :
    (Builtin.append_ #[t, t] ty #[v, .slice none 0 c]).run P w = .ok v w := by
  rcases hown.2 with ⟨rfl, rfl⟩ | ⟨g, cap, cur, rfl, _, _, hnc, _⟩
  · simp [Builtin.append_, run_underlying ht, sizeOf, typeInfo, hi, Builtin.lenOf, Builtin.firstCells]
  · simp [Builtin.append_, run_underlying ht, sizeOf, typeInfo, hi, Builtin.lenOf, Builtin.firstCells, hnc, storeCells]
/-- momenta, wherever they lie, are appended to ones of the call's own -/
theorem run_append_kicks (w : World) (ty : TypeId) (base : Nat) (v : Value) (m : Nat) (xs : List Value) (ao : Option Addr) (c n : Nat) (l : List Int) (hl : l.length = n * 3) (hown : w.ownsRow base 38 3 v m xs) (h : LiesOI w ao l) (hb : base ≤ w.heap.size) (hn : m + n ≤ 1000000) :
    ∃ v' w', (Builtin.append_ #[26, 26] ty #[v, .slice ao n c]).run Tryz.prog w = .ok v' w' ∧ w'.ownsRow base 38 3 v' (m + n) (xs ++ l.map vi) ∧ w.grownBy w' v.ownBlock := by
  obtain ⟨i0, hi, hz0, hz1, hz2⟩ := info_parts infoK
  have some_ : ∀ a : Addr, (∀ j u, (l.map vi)[j]? = some u → w.cell? (a.add j) = some u) → ∃ v' w', (Builtin.append_ #[26, 26] ty #[v, .slice (some a) n c]).run Tryz.prog w = .ok v' w' ∧ w'.ownsRow base 38 3 v' (m + n) (xs ++ l.map vi) ∧ w.grownBy w' v.ownBlock := fun a hat => by
    obtain ⟨v', w', h1, h2, h3, -⟩ := run_append_own w base 26 ty 38 i0 _ 3 24 Tryz.underlying26 hi hz0 hz1 hz2 rfl (by decide) v m xs hown a n c (l.map vi) (by rw [List.length_map, hl]) hat (liesI_ones l) (by unfold maxLen; omega) (by omega) hb
    exact ⟨v', w', h1, h2, h3⟩
  rcases h with rfl | ⟨b, off, rfl, h⟩
  · obtain rfl : n = 0 := by simp at hl; omega
    cases ao with
    | none => exact ⟨v, w, run_append_none_capK base _ ty _ i0 3 c Tryz.underlying26 hi v m xs hown, by simpa using hown, ⟨rfl, rfl, rfl, Nat.le_refl _, fun _ _ _ => rfl⟩⟩
    | some a => exact some_ a (fun j u hj => by simp at hj)
  · exact some_ _ (liesI_news h)
theorem run_append_zeroK {P : Program} {w : World} (t ty e : TypeId) (i : TypeInfo) (g c : Nat) (ao : Option Addr) (ht : P.underlying t = some (.slice e)) (hi : P.info? e = some i) :
    (Builtin.append_ #[t, t] ty #[.slice (some ⟨g, 0, none⟩) 0 0, .slice ao 0 c]).run P w = .ok (.slice (some ⟨g, 0, none⟩) 0 0) w := by
  cases ao <;> simp [Builtin.append_, run_underlying ht, sizeOf, typeInfo, hi, Builtin.lenOf, Builtin.firstCells, storeCells, loadCells, loadCellsFrom]
set_option maxHeartbeats 1600000 in
theorem copied_any (po : Option Addr) (l : List Int) (n pc : Nat) (w : World) (hp : LiesOI w po l) (hl : l.length = n * 3) (hn : n ≤ 1000) : Calls Tryz.prog 11 #[.slice po n pc] w fun e w' => (∃ g k : Nat, e = .returned (.slice (some ⟨g, 0, none⟩) n k) ∧ LiesI w' g 0 l ∧ w.heap.size ≤ g) ∧ Below w.heap.size w w' := by
  have hx : ∃ v' w2, (Builtin.append_ #[26, 26] 26 #[.slice (some ⟨w.heap.size, 0, none⟩) 0 0, .slice po n pc]).run Tryz.prog (w.alloc (.cells #[] 38)) = .ok v' w2 ∧ (∃ g k : Nat, v' = .slice (some ⟨g, 0, none⟩) n k ∧ LiesI w2 g 0 l ∧ w.heap.size ≤ g) ∧ Below w.heap.size w w2 := by
    by_cases h0 : 0 < n
    · obtain ⟨v', w2, hrun, hown, hgrow⟩ := run_append_kicks (w.alloc (.cells #[] 38)) 26 w.heap.size (.slice (some ⟨w.heap.size, 0, none⟩) 0 0) 0 [] po pc n l hl (World.ownsRow_lit w #[] 0 (Nat.le_refl _) (by unfold maxLen; omega) (by simp)) (hp.later ba1) (by simp) (by omega)
      rw [Nat.zero_add, List.nil_append] at hown
      have hb := ((Below.refl w.heap.size w).alloc (Nat.le_refl _) (.cells #[] 38)).grown hgrow (by simp) (fun j hj => by simp [Value.ownBlock] at hj; omega)
      obtain ⟨g, k, rfl, hgb, hli⟩ := owned_liesK hown h0 hl
      exact ⟨_, w2, hrun, ⟨g, k, rfl, hli, hgb⟩, hb⟩
    · obtain rfl : n = 0 := by omega
      obtain rfl : l = [] := List.length_eq_zero_iff.1 (by omega)
      obtain ⟨i0, hi, -⟩ := info_parts infoK
      exact ⟨_, _, run_append_zeroK 26 26 38 i0 w.heap.size pc po Tryz.underlying26 hi, ⟨_, _, rfl, fun i x hx => by simp at hx, Nat.le_refl _⟩, ba1⟩
  obtain ⟨v', w2, hrun, hres, hb⟩ := hx
  clear hp
  have HR := Lib.hid hres
  have HB := Lib.hid hb
  clear hb hres
  go_enter Tryz.func11, Tryz.ntmps11
  go_wp2_with (at_builtin; refine Lib.wpList_append_run_sl _ rfl (.tmp 3) (.tmp 4) 26 rfl _ _ rfl rfl hrun ?_)
  go_ret
  obtain ⟨g, k, rfl, h1, h2⟩ := HR.out
  exact ⟨⟨g, k, rfl, h1, h2⟩, HB.out⟩
end Go.Proofs.YtilbhcjnkmeecaaGreat

/- A field that came in, opened, with what a field without an array holds.
Conditions: those written at each theorem. -/
namespace Go.Proofs.YtilbhcjnkmeecaaGreat
set_option linter.unusedVariables false
set_option linter.unusedSimpArgs false
set_option maxRecDepth 1000000
section
open Go.ChangeShapes Go.WideShapes Go.ChangeAt Go.RowKit Go.Joins Go.Deep
open Um
variable {H : Type} {enc : TypeId × Value → H} {w : World} {base : Nat} {spare : Nat → Bool} {held : Bool}
theorem open_fieldN {r : Reach} {b0 : Nat} {v : Value} {d : DataW H} {p : List MemPlace} (hv : Value.okWide Tryz.prog w r b0 25 v) (h : DataW.Trod enc Tryz.prog w base spare held 25 v d p) : ∃ (x y z : Int) (ao : Option Addr) (L : List Q) (cap : Nat), v = .agg #[.int .i64 x, .int .i64 y, .int .i64 z, .slice ao L.length cap] ∧ L.length ≤ maxLen ∧ LiesO w ao L ∧ (ao = none → cap = 0) := by
  obtain ⟨cs, rfl, hsz⟩ := okWide_struct Tryz.underlying25 hv
  obtain ⟨ls⟩ := cs
  match ls, hsz.trans cellsF with
  | [c0, c1, c2, c3], _ =>
    obtain ⟨fuel, hf⟩ := h
    obtain ⟨xs, n, _, _, _, hlen, hg⟩ := DataW.trod_struct Tryz.underlying25 hf
    match xs, hlen with
    | [y0, y1], _ =>
      have g0' : DataW.trod enc Tryz.prog w base spare held n 22 [c0, c1, c2] = some y0 := by simpa [Value.cells, cellsA3] using hg 0 _ rfl
      have g1' : DataW.trod enc Tryz.prog w base spare held n 23 [c3] = some y1 := by simpa [Value.cells, cellsUs] using hg 1 _ rfl
      obtain ⟨ao, L, cap, e3, hl, hm⟩ := trod_units g1'
      have hnil : ao = none → cap = 0 := fun h0 => by
        subst h0
        rcases open_slice_fields Tryz.underlying23 Tryz.underlying40 (one_of (fs := _) Tryz.underlying40 (by kernel_rfl)) cells23 g1' with h | ⟨a, len, cap', h, _⟩
        · rw [h] at e3; simp at e3; exact e3.2.symm
        · rw [h] at e3; simp at e3
      obtain ⟨zs, n', _, _, _, hlen', hg'⟩ := DataW.trod_array Tryz.underlying22 g0'
      match zs, hlen' with
      | [z0, z1, z2], _ =>
        obtain ⟨a, e0, _, _⟩ := DataW.trod_int Tryz.underlying3 (show DataW.trod enc Tryz.prog w base spare held n' 3 [c0] = some z0 by simpa [Value.cells, cells3] using hg' 0 (by omega))
        obtain ⟨b, e1, _, _⟩ := DataW.trod_int Tryz.underlying3 (show DataW.trod enc Tryz.prog w base spare held n' 3 [c1] = some z1 by simpa [Value.cells, cells3] using hg' 1 (by omega))
        obtain ⟨c, e2, _, _⟩ := DataW.trod_int Tryz.underlying3 (show DataW.trod enc Tryz.prog w base spare held n' 3 [c2] = some z2 by simpa [Value.cells, cells3] using hg' 2 (by omega))
        simp at e0 e1 e2 e3
        subst e0 e1 e2 e3
        exact ⟨a, b, c, ao, L, cap, rfl, hl, hm, hnil⟩
end
end Go.Proofs.YtilbhcjnkmeecaaGreat
