/- Lists of integers in memory: those that came in, those that a call made; and how two are compared.
Conditions: those written at each theorem. -/
import Derived.Test.YtjidbajcnomceaaGreatRows5
import Derived.Test.YtjidbajcnomceaaGreatKnown2
namespace Go.Proofs.YtjidbajcnomceaaGreat
set_option linter.unusedVariables false
set_option linter.unusedSimpArgs false
set_option maxRecDepth 1000000
open Go.RowKit

def LiesI (w : World) (b off : Nat) (l : List Int) : Prop := ∀ (i : Nat) (x : Int), l[i]? = some x → w.cell? ⟨b, off + i, none⟩ = some (.int .i64 x)
theorem LiesI.later {w w1 : World} {b off : Nat} {l : List Int} (h : LiesI w b off l) (hb : Below w.heap.size w w1) : LiesI w1 b off l := fun i x hx => by
  have f := h i x hx
  rw [hb.cell (World.block_lt_of_cell? w _ f)]
  exact f
def LiesOI (w : World) (ao : Option Addr) (l : List Int) : Prop := l = [] ∨ ∃ b off, ao = some ⟨b, off, none⟩ ∧ LiesI w b off l
theorem LiesOI.later {w w1 : World} {ao : Option Addr} {l : List Int} (h : LiesOI w ao l) (hb : Below w.heap.size w w1) : LiesOI w1 ao l := by
  rcases h with h | ⟨b, off, h, hl⟩
  · exact .inl h
  · exact .inr ⟨b, off, h, hl.later hb⟩

theorem infoI : (Tryz.prog.info? 3).map (fun i => (i.zero, i.size, i.bytes)) = some (some (.int .i64 0), 1, 8) := by kernel_rfl
def vi (x : Int) : Value := .int .i64 x
theorem owned_liesI {w : World} {base : Nat} {T : TypeId} {g cap : Nat} {l : List Int} (h : w.ownsRow base T 1 (.slice (some ⟨g, 0, none⟩) l.length cap) l.length (l.map vi)) : LiesI w g 0 l := fun i x hx => by
  have hi : i < l.length := (List.getElem?_eq_some_iff.1 hx).1
  rw [Nat.zero_add, h.cellAt i (by omega), List.getElem?_map, hx]
  rfl
theorem owned_liesOI {w : World} {base : Nat} {T : TypeId} {v : Value} {l : List Int} (h : w.ownsRow base T 1 v l.length (l.map vi)) : ∃ ao cap, v = .slice ao l.length cap ∧ LiesOI w ao l := by
  rcases h.2 with ⟨rfl, h0⟩ | ⟨g, cap, cur, rfl, hg, _⟩
  · exact ⟨none, 0, by rw [h0], .inl (List.length_eq_zero_iff.1 h0)⟩
  · exact ⟨_, cap, rfl, .inr ⟨g, 0, rfl, owned_liesI h⟩⟩
/-- a list of numbers in a block that is no older than B -/
def LiesNI (w : World) (B : Nat) (ao : Option Addr) (l : List Int) : Prop := l = [] ∨ ∃ b off, ao = some ⟨b, off, none⟩ ∧ B ≤ b ∧ (∀ j, w.frozen? ⟨b, j, none⟩ = false) ∧ LiesI w b off l
theorem LiesNI.o {w : World} {B : Nat} {ao : Option Addr} {l : List Int} (h : LiesNI w B ao l) : LiesOI w ao l := by
  rcases h with h | ⟨b, off, h, -, -, hl⟩
  · exact .inl h
  · exact .inr ⟨b, off, h, hl⟩
theorem lies_block {w : World} {b off : Nat} {l : List Int} (h : LiesI w b off l) (h0 : l ≠ []) : b < w.heap.size :=
  World.block_lt_of_cell? w _ (h 0 _ (List.getElem?_eq_getElem (List.length_pos_iff.2 h0)))
theorem LiesNI.later {w w1 : World} {B : Nat} {ao : Option Addr} {l : List Int} (h : LiesNI w B ao l) (hb : Below w.heap.size w w1) : LiesNI w1 B ao l := by
  by_cases h0 : l = []
  · exact .inl h0
  · rcases h with h | ⟨b, off, h, hB, hf, hl⟩
    · exact .inl h
    · exact .inr ⟨b, off, h, hB, fun j => (hb.frozen (lies_block hl h0)).trans (hf j), hl.later hb⟩
theorem LiesNI.le {w : World} {B C : Nat} {ao : Option Addr} {l : List Int} (h : LiesNI w B ao l) (hC : C ≤ B) : LiesNI w C ao l := by
  rcases h with h | ⟨b, off, h, hB, hl⟩
  · exact .inl h
  · exact .inr ⟨b, off, h, Nat.le_trans hC hB, hl⟩
theorem owned_liesNI {w : World} {base : Nat} {T : TypeId} {v : Value} {l : List Int} (h : w.ownsRow base T 1 v l.length (l.map vi)) : ∃ ao cap, v = .slice ao l.length cap ∧ LiesNI w base ao l ∧ l.length ≤ cap := by
  rcases h.2 with ⟨rfl, h0⟩ | ⟨g, cap, cur, rfl, hg, _, hnc, _⟩
  · exact ⟨none, 0, by rw [h0], .inl (List.length_eq_zero_iff.1 h0), by omega⟩
  · exact ⟨_, cap, rfl, .inr ⟨g, 0, rfl, hg, fun j => h.frozenAt j, owned_liesI h⟩, hnc⟩
theorem owned_ne {w : World} {base : Nat} {T : TypeId} {size n b : Nat} {v : Value} {xs : List Value} (h : w.ownsRow base T size v n xs) (hb : b < base) : some b ≠ v.ownBlock := by
  rcases h.2 with ⟨rfl, _⟩ | ⟨g, cap, cur, rfl, hg, _⟩
  · simp [Value.ownBlock]
  · simp [Value.ownBlock]; omega
theorem owned_from {w : World} {base : Nat} {T : TypeId} {size n : Nat} {v : Value} {xs : List Value} (h : w.ownsRow base T size v n xs) : ∀ k, v.ownBlock = some k → base ≤ k := by
  rcases h.2 with ⟨rfl, _⟩ | ⟨g, cap, cur, rfl, hg, _⟩
  · simp [Value.ownBlock]
  · intro k hk; simp [Value.ownBlock] at hk; omega
theorem owned_shrink {w : World} {base : Nat} {T : TypeId} {g n m cap : Nat} {xs : List Value} (h : w.ownsRow base T 1 (.slice (some ⟨g, 0, none⟩) n cap) n xs) (hm : m ≤ n) : w.ownsRow base T 1 (.slice (some ⟨g, 0, none⟩) m cap) m (xs.take m) := by
  have hl := h.1
  rcases h.2 with ⟨h', _⟩ | ⟨g', cap', cur, h', hb, hg, hnc, hcm, hcs, htake⟩
  · simp at h'
  · simp only [Value.slice.injEq, Option.some.injEq, Addr.mk.injEq, and_true, true_and] at h'
    obtain ⟨rfl, rfl⟩ := h'
    refine ⟨by rw [List.length_take, hl]; omega, .inr ⟨g, cap, cur, rfl, hb, hg, by omega, hcm, hcs, ?_⟩⟩
    rw [← htake, List.take_take, Nat.min_eq_left (by omega), Nat.mul_one]
theorem one_cell {w : World} {b : Nat} {x : Value} (h : w.cell? ⟨b, 0, none⟩ = some x) : ∀ j u, [x][j]? = some u → w.cell? (Addr.add ⟨b, 0, none⟩ j) = some u := fun j u hj => by
  match j, hj with
  | 0, hj => simp at hj; subst hj; exact h
  | n + 1, hj => simp at hj
theorem one_one (x : Int) : ∀ u ∈ [vi x], u.oneCell' = true := fun u hu => by
  simp at hu
  subst hu
  rfl

section
open Go.ChangeShapes Go.WideShapes Go.ChangeAt Go.RowKit Go.Joins Go.Deep
variable {H : Type} {enc : TypeId × Value → H} {w : World} {base : Nat} {spare : Nat → Bool} {held : Bool}
theorem trod_ints {fuel : Nat} {cs : List Value} {x : DataW H × List MemPlace} (h : DataW.trod enc Tryz.prog w base spare held fuel 26 cs = some x) : ∃ (ao : Option Addr) (l : List Int) (cap : Nat), cs = [.slice ao l.length cap] ∧ l.length ≤ cap ∧ cap ≤ maxLen ∧ LiesOI w ao l := by
  rcases ChangeShapes.open_ints Tryz.underlying26 Tryz.underlying3 cells3 h with ⟨rfl, -⟩ | ⟨a, len, cap, zs, rfl, -, hl, hm, hz, -, hc, -⟩
  · exact ⟨none, [], 0, rfl, by simp, by unfold maxLen; omega, .inl rfl⟩
  · have hlz : len ≤ zs.length := by rw [hz]; split <;> omega
    have hlen : (zs.take len).length = len := by rw [List.length_take]; omega
    refine ⟨some a, zs.take len, cap, by rw [hlen], by omega, hm, ?_⟩
    by_cases h0 : len = 0
    · subst h0
      exact .inl (by simp)
    · have c0 := hc 0 (by omega)
      obtain ⟨b, off, spot⟩ := a
      have hs := World.cell?_spot c0
      simp [Addr.add] at hs
      subst hs
      refine .inr ⟨b, off, rfl, fun i x hx => ?_⟩
      have hi : i < len := by have := (List.getElem?_eq_some_iff.1 hx).1; omega
      have hci := hc i (by omega)
      rw [List.getElem?_take, if_pos hi] at hx
      have e : zs.getD i 0 = x := by rw [List.getD_eq_getElem?_getD, hx]; rfl
      rw [e] at hci
      unfold Addr.add at hci
      split at hci
      · rename_i h; subst h; exact hci
      · exact hci
theorem open_intsO {r : Reach} {b0 : Nat} {v : Value} {d : DataW H} {p : List MemPlace} (hv : Value.okWide Tryz.prog w r b0 26 v) (h : DataW.Trod enc Tryz.prog w base spare held 26 v d p) : ∃ (ao : Option Addr) (l : List Int) (cap : Nat), v = .slice ao l.length cap ∧ l.length ≤ cap ∧ cap ≤ maxLen ∧ LiesOI w ao l := by
  obtain ⟨fuel, hf⟩ := h
  obtain ⟨ao, l, cap, he, hl, hm, hi⟩ := trod_ints hf
  refine ⟨ao, l, cap, ?_, hl, hm, hi⟩
  obtain ⟨a, n, c, rfl⟩ := okWide_slice Tryz.underlying26 hv
  simpa [Value.cells] using he
end

set_option maxHeartbeats 1600000 in
theorem sameInts_some (b1 o1 c1 b2 o2 c2 : Nat) (l1 l2 : List Int) (w : World) (r : Bool) (h1 : LiesI w b1 o1 l1) (h2 : LiesI w b2 o2 l2) (hn : l1.length = l2.length) (hlen : l1.length ≤ 1000000) (hr : r = decide (l1 = l2)) :
    Calls Tryz.prog 22 #[.slice (some ⟨b1, o1, none⟩) l1.length c1, .slice (some ⟨b2, o2, none⟩) l2.length c2] w fun e w' => e = .returned (.bool r) ∧ Below w.heap.size w w' := by
  have H1 := Lib.hid h1
  have H2 := Lib.hid h2
  have HR := Lib.hid hr
  have hn' : ((l1.length : Int) != (l2.length : Int)) = false := by simp [hn]
  have HN := Lib.hid hn
  clear h1 h2 hr hn
  have kc := @Tail.cell_re
  have kc1 : ∀ (W : World) (o : Obj) (d : Nat) (os : Array Obj) (a : Addr), a.block ≤ W.heap.size → (Sort.grow (redrawn (W.alloc o) d) os).cell? a = (W.alloc o).cell? a := fun W o d os a h => Tail.cell_re (W.alloc o) d os a (Nat.lt_of_le_of_lt h (by simp))
  go_enter Tryz.func22, Tryz.ntmps22
  go_wp2
  go_loopw [5] (fun q wr => ∃ k : Nat, k ≤ l1.length ∧ q = .int .i64 k ∧ Hid (l1.take k = l2.take k) ∧ Below w.heap.size w wr) (fun q _ => l1.length - (intOf q).toNat)
  case atStart => exact ⟨0, by omega, rfl, Lib.hid rfl, Below.refl _ _⟩
  case round =>
    obtain ⟨k, hk, rfl, heq, hb⟩ := hrel
    by_cases hlt : k < l1.length
    · have hlt2 : k < l2.length := by have := HN.out; omega
      have x1 := H1.out.later hb k _ (List.getElem?_eq_getElem hlt)
      have x2 := H2.out.later hb k _ (List.getElem?_eq_getElem hlt2)
      have lb1 : b1 < wr.heap.size := World.block_lt_of_cell? wr _ x1
      have lb2 : b2 < wr.heap.size := World.block_lt_of_cell? wr _ x2
      have t1 := List.take_succ_eq_append_getElem hlt
      have t2 := List.take_succ_eq_append_getElem hlt2
      have g1 : l1[k]? = some l1[k] := List.getElem?_eq_getElem hlt
      have g2 : l2[k]? = some l2[k] := List.getElem?_eq_getElem hlt2
      generalize l1[k] = p at *
      generalize l2[k] = q at *
      have T1 := Lib.hid t1
      have T2 := Lib.hid t2
      have G1 := Lib.hid g1
      have G2 := Lib.hid g2
      have i1 : (k : Int) < (l1.length : Int) := by omega
      have i2 : (k : Int) < (l2.length : Int) := by omega
      clear t1 t2 g1 g2
      by_cases he : p = q
      · subst he
        go_wp2
        refine Tail.region_below (by kernel_rfl) (by kernel_rfl) ?_
        repeat (go_big_quiet_step (fail))
        refine wpQuiet_nil ?_
        intro w1 hw1
        go_wp2
        exact ⟨⟨k + 1, by omega, by go_num, Lib.hid (by rw [T1.out, T2.out, heq.out]), by repeat (first | (with_reducible exact Below.refl _ _) | (with_reducible refine Below.setCell ?_ ?_ _) | (with_reducible refine Below.drew ?_) | (with_reducible refine Below.alloc ?_ ?_ _) | (with_reducible refine Below.trans ?_ (Below.mono hw1 ?_)) | (with_reducible refine Below.trans ?_ (Below.mono hb ?_)) | (with_reducible exact hw1.size) | (with_reducible exact hb.size) | omega | (simp <;> omega) | (simp <;> (have s := hw1.size; omega)) | (simp <;> (have s := hb.size; omega)) | (have s0 := hw1.size; (try simp at s0); have s1 := hb.size; (try simp at s1); (try simp); omega))⟩, by simp [intOf]; omega⟩
      · have he' : (p != q) = true := by simpa using he
        have hf : r = false := by
          rw [HR.out]
          refine decide_eq_false fun h => he ?_
          have := G1.out
          rw [h, G2.out] at this
          simpa using this.symm
        subst hf
        clear he
        go_wp2
        refine Tail.region_below (by kernel_rfl) (by kernel_rfl) ?_
        repeat (go_big_quiet_step (fail))
        refine wpQuiet_nil ?_
        intro w1 hw1
        go_wp2
        go_ret
        exact ⟨rfl, by repeat (first | (with_reducible exact Below.refl _ _) | (with_reducible refine Below.setCell ?_ ?_ _) | (with_reducible refine Below.drew ?_) | (with_reducible refine Below.alloc ?_ ?_ _) | (with_reducible refine Below.trans ?_ (Below.mono hw1 ?_)) | (with_reducible refine Below.trans ?_ (Below.mono hb ?_)) | (with_reducible exact hw1.size) | (with_reducible exact hb.size) | omega | (simp <;> omega) | (simp <;> (have s := hw1.size; omega)) | (simp <;> (have s := hb.size; omega)) | (have s0 := hw1.size; (try simp at s0); have s1 := hb.size; (try simp at s1); (try simp); omega))⟩
    · have hf : r = true := by
        rw [HR.out]
        refine decide_eq_true ?_
        have := heq.out
        rwa [List.take_of_length_le (by omega), List.take_of_length_le (by have := HN.out; omega)] at this
      subst hf
      obtain rfl : k = l1.length := by omega
      go_wp2
      go_ret
      exact ⟨rfl, hb⟩

set_option maxHeartbeats 800000 in
theorem sameInts_len (a1 a2 : Option Addr) (c1 c2 n1 n2 : Nat) (w : World) (hn : n1 ≠ n2) :
    Calls Tryz.prog 22 #[.slice a1 n1 c1, .slice a2 n2 c2] w fun e w' => e = .returned (.bool false) ∧ Below w.heap.size w w' := by
  have hn' : ((n1 : Int) != (n2 : Int)) = true := by simp; omega
  clear hn
  go_enter Tryz.func22, Tryz.ntmps22
  go_wp2
  go_ret
  exact ⟨rfl, Below.refl _ _⟩
set_option maxHeartbeats 800000 in
theorem sameInts_nil (a1 a2 : Option Addr) (c1 c2 : Nat) (w : World) :
    Calls Tryz.prog 22 #[.slice a1 0 c1, .slice a2 0 c2] w fun e w' => e = .returned (.bool true) ∧ Below w.heap.size w w' := by
  go_enter Tryz.func22, Tryz.ntmps22
  go_wp2
  refine wp_loop_rounds 1 ?_
  rw [rounds_succ]
  go_wp2
  go_ret
  exact ⟨rfl, Below.refl _ _⟩
/-- Two lists of integers are compared. -/
theorem sameInts_any (a1 a2 : Option Addr) (c1 c2 : Nat) (l1 l2 : List Int) (w : World) (h1 : LiesOI w a1 l1) (h2 : LiesOI w a2 l2) (hlen : l1.length ≤ 1000000) :
    Calls Tryz.prog 22 #[.slice a1 l1.length c1, .slice a2 l2.length c2] w fun e w' => e = .returned (.bool (decide (l1 = l2))) ∧ Below w.heap.size w w' := by
  by_cases hn : l1.length = l2.length
  · rcases h1 with rfl | ⟨b1, o1, rfl, h1⟩
    · have : l2 = [] := List.length_eq_zero_iff.1 hn.symm
      subst this
      exact sameInts_nil a1 a2 c1 c2 w
    · rcases h2 with rfl | ⟨b2, o2, rfl, h2⟩
      · have : l1 = [] := List.length_eq_zero_iff.1 hn
        subst this
        exact sameInts_nil _ a2 c1 c2 w
      · exact sameInts_some b1 o1 c1 b2 o2 c2 l1 l2 w _ h1 h2 hn hlen rfl
  · have hd : decide (l1 = l2) = false := decide_eq_false fun h => hn (by rw [h])
    rw [hd]
    exact sameInts_len a1 a2 c1 c2 _ _ w hn
end Go.Proofs.YtjidbajcnomceaaGreat
