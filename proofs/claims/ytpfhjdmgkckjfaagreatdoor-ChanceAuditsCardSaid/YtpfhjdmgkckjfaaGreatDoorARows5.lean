/- Lists of units and of quaternions that a call itself has made, and lists that came in.
Conditions: those written at each theorem. -/
import Derived.Test.YtpfhjdmgkckjfaaGreatDoorAProd
import Derived.Deep.Slices
import Derived.Deep.Fields
import Derived.ChangeSame
namespace Go.Proofs.YtpfhjdmgkckjfaaGreatDoor
set_option linter.unusedVariables false
set_option linter.unusedSimpArgs false
set_option maxRecDepth 1000000
open Go.RowKit
open Um

theorem flat_get {α β : Type} (f : α → List β) (n : Nat) (hf : ∀ x, (f x).length = n) : ∀ (L : List α) (i : Nat) (x : α), L[i]? = some x → ∀ j, j < n → (L.flatMap f)[i * n + j]? = (f x)[j]?
  | [], i, x, h, _, _ => by simp at h
  | y :: L, 0, x, h, j, hj => by
    simp only [List.getElem?_cons_zero, Option.some.injEq] at h
    subst h
    rw [List.flatMap_cons, Nat.zero_mul, Nat.zero_add, List.getElem?_append_left (by rw [hf]; exact hj)]
  | y :: L, i + 1, x, h, j, hj => by
    rw [List.getElem?_cons_succ] at h
    have e : (i + 1) * n + j = n + (i * n + j) := by rw [Nat.succ_mul]; omega
    rw [List.flatMap_cons, e, List.getElem?_append_right (by rw [hf]; omega), hf, Nat.add_sub_cancel_left]
    exact flat_get f n hf L i x h j hj
theorem flat_len {α β : Type} (f : α → List β) (n : Nat) (hf : ∀ x, (f x).length = n) : ∀ (L : List α), (L.flatMap f).length = L.length * n
  | [] => by simp
  | y :: L => by rw [List.flatMap_cons, List.length_append, hf, flat_len f n hf L, List.length_cons, Nat.succ_mul]; omega
theorem take_flat {α β : Type} (f : α → List β) (L : List α) (k : Nat) (hk : k < L.length) : (L.take (k + 1)).flatMap f = (L.take k).flatMap f ++ f L[k] := by
  rw [List.take_succ_eq_append_getElem hk, List.flatMap_append]
  simp

/-- the five cells of a unit, of a quaternion -/
def uc (x : Q) : List Value := [.int .i64 x.a, .int .i64 x.b, .int .i64 x.c, .int .i64 x.d, .int .i64 x.n]
def qc (x : Q) : List Value := [.int .i64 x.b, .int .i64 x.c, .int .i64 x.d, .int .i64 x.a, .int .i64 x.n]
theorem uc_len (x : Q) : (uc x).length = 5 := rfl
theorem qc_len (x : Q) : (qc x).length = 5 := rfl

theorem owned_lies {w : World} {base : Nat} {T : TypeId} {g cap : Nat} {L : List Q} (h : w.ownsRow base T 5 (.slice (some ⟨g, 0, none⟩) L.length cap) L.length (L.flatMap uc)) : Lies w g 0 L := fun i x hx => by
  have hi : i < L.length := (List.getElem?_eq_some_iff.1 hx).1
  have f : ∀ j, j < 5 → w.cell? ⟨g, 0 + i * 5 + j, none⟩ = (uc x)[j]? := fun j hj => by
    rw [show 0 + i * 5 + j = i * 5 + j by omega, h.cellAt (i * 5 + j) (by omega)]
    exact flat_get uc 5 uc_len L i x hx j hj
  exact ⟨f 0 (by omega), f 1 (by omega), f 2 (by omega), f 3 (by omega), f 4 (by omega)⟩
theorem owned_liesQ {w : World} {base : Nat} {T : TypeId} {g cap : Nat} {L : List Q} (h : w.ownsRow base T 5 (.slice (some ⟨g, 0, none⟩) L.length cap) L.length (L.flatMap qc)) : LiesQ w g 0 L := fun i x hx => by
  have hi : i < L.length := (List.getElem?_eq_some_iff.1 hx).1
  have f : ∀ j, j < 5 → w.cell? ⟨g, 0 + i * 5 + j, none⟩ = (qc x)[j]? := fun j hj => by
    rw [show 0 + i * 5 + j = i * 5 + j by omega, h.cellAt (i * 5 + j) (by omega)]
    exact flat_get qc 5 qc_len L i x hx j hj
  exact ⟨f 0 (by omega), f 1 (by omega), f 2 (by omega), f 3 (by omega), f 4 (by omega)⟩

theorem UBox.grown {w w1 : World} {b : Nat} {x : Q} {row : Option Nat} (h : UBox w b x) (hg : w.grownBy w1 row) (hne : some b ≠ row) : UBox w1 b x :=
  ⟨hg.cell h.ca hne, hg.cell h.cb hne, hg.cell h.cc hne, hg.cell h.cd hne, hg.cell h.cn hne, fun j => (World.frozen?_of_block (a := ⟨b, j, none⟩) (hg.block b h.lt hne)).trans (h.free j), Nat.lt_of_lt_of_le h.lt hg.size⟩

theorem grown_of {w w1 : World} (hb : Below w.heap.size w w1) (row : Option Nat) : w.grownBy w1 row := ⟨hb.os, hb.tape, hb.output, hb.size, fun k hk _ => hb.block k hk⟩
theorem owned_later {w w1 : World} {base : Nat} {T : TypeId} {size n : Nat} {v : Value} {xs : List Value} (h : w.ownsRow base T size v n xs) (hb : Below w.heap.size w w1) : w1.ownsRow base T size v n xs :=
  h.kept (grown_of hb none) (by cases v.ownBlock <;> simp)

/-- A list of units lies where a slice says, whatever slice of no elements it may be. -/
def LiesO (w : World) (ao : Option Addr) (L : List Q) : Prop := L = [] ∨ ∃ b off, ao = some ⟨b, off, none⟩ ∧ Lies w b off L
theorem LiesO.later {w w1 : World} {ao : Option Addr} {L : List Q} (h : LiesO w ao L) (hb : Below w.heap.size w w1) : LiesO w1 ao L := by
  rcases h with h | ⟨b, off, h, hl⟩
  · exact .inl h
  · exact .inr ⟨b, off, h, hl.later hb⟩

section
open Go.ChangeShapes Go.WideShapes Go.Deep
variable {H : Type} {enc : TypeId × Value → H} {P : Program} {w : World} {base : Nat} {spare : Nat → Bool} {held : Bool}
theorem open_slice_fields {t e : TypeId} {fs : Array Field} {fuel : Nat} {cs : List Value} {x : DataW H × List MemPlace} (ht : P.underlying t = some (.slice e)) (he : P.underlying e = some (.struct fs))
    (hone : oneCellFields P fs = true) (hC : P.cellsOf e = fs.size) (h : DataW.trod enc P w base spare held fuel t cs = some x) :
    cs = [.slice none 0 0] ∨
    ∃ (a : Addr) (len cap : Nat), cs = [.slice (some a) len cap] ∧ len ≤ cap ∧ cap ≤ maxLen ∧
      ∀ i, i < len → ∀ (j : Nat) (f : Field), fs[j]? = some f → ∃ (n : Nat) (v : Value) (y : DataW H × List MemPlace), w.cell? (a.add (i * fs.size + j)) = some v ∧ DataW.trod enc P w base spare held n f.type [v] = some y := by
  rcases open_slice ht h with h0 | ⟨a, len, cap, m, n, D, Pl, hcs, hb, hl, hm, hmm, hx, hi⟩
  · exact .inl h0.1
  · refine .inr ⟨a, len, cap, hcs, hl, hm, fun i him j f hj => ?_⟩
    have him' : i < m := by rw [hmm]; split <;> omega
    obtain ⟨cs', hc, ht'⟩ := hi i him'
    rw [hC] at hc
    obtain ⟨ys, n', hn', hy, hlen, hyl, hf⟩ := DataW.trod_struct he ht'
    obtain ⟨_, hcl, hat⟩ := World.cells?_some hc
    obtain ⟨ho, hk⟩ := hone_of hone j f hj
    have hjl : j < fs.size := (Array.getElem?_eq_some_iff.1 hj).1
    have hcell := hat j hjl
    have hv : cs'[j]? = some (cs'[j]'(by omega)) := List.getElem?_eq_getElem (by omega)
    have h1 := hf j f hj
    rw [ho, hk] at h1
    have hone' : (cs'.drop j).take 1 = [cs'[j]'(by omega)] := by
      rw [List.drop_eq_getElem_cons (by omega)]
      rfl
    rw [hone'] at h1
    have hys : ys[j]? = some (ys[j]'(by omega)) := List.getElem?_eq_getElem (by omega)
    refine ⟨n', _, _, ?_, h1.trans hys⟩
    rw [← Go.Deep.add_add, hcell, hv]
end
section
open Go.ChangeShapes Go.WideShapes Go.ChangeAt Go.RowKit Go.Joins Go.Deep
variable {H : Type} {enc : TypeId × Value → H} {w : World} {base : Nat} {spare : Nat → Bool} {held : Bool}
theorem list_of {α : Type} (len : Nat) (C : Nat → α → Prop) (h : ∀ i, i < len → ∃ x, C i x) : ∃ L : List α, L.length = len ∧ ∀ i x, L[i]? = some x → C i x := by
  induction len with
  | zero => exact ⟨[], rfl, fun i x hx => by simp at hx⟩
  | succ n ih =>
    obtain ⟨L, hl, hL⟩ := ih (fun i hi => h i (by omega))
    obtain ⟨x, hx⟩ := h n (by omega)
    refine ⟨L ++ [x], by simp [hl], fun i y hy => ?_⟩
    by_cases hi : i < n
    · rw [List.getElem?_append_left (by omega)] at hy
      exact hL i y hy
    · have hlt : i < (L ++ [x]).length := (List.getElem?_eq_some_iff.1 hy).1
      have e : i = n := by simp [hl] at hlt; omega
      subst e
      rw [List.getElem?_append_right (by omega), hl, Nat.sub_self] at hy
      simp at hy
      subst hy
      exact hx
theorem trod_units {fuel : Nat} {cs : List Value} {x : DataW H × List MemPlace} (h : DataW.trod enc Tryz.prog w base spare held fuel 23 cs = some x) : ∃ (ao : Option Addr) (L : List Q) (cap : Nat), cs = [.slice ao L.length cap] ∧ L.length ≤ maxLen ∧ LiesO w ao L := by
  have hone := one_of (fs := _) Tryz.underlying73 (by kernel_rfl)
  rcases open_slice_fields Tryz.underlying23 Tryz.underlying73 hone cells23 h with rfl | ⟨a, len, cap, rfl, hl, hm, hc⟩
  · exact ⟨none, [], 0, rfl, by simp, .inl rfl⟩
  · obtain ⟨L, rfl, hL⟩ := list_of len (fun i (q : Q) => w.cell? (a.add (i * 5)) = some (.int .i64 q.a) ∧ w.cell? (a.add (i * 5 + 1)) = some (.int .i64 q.b) ∧ w.cell? (a.add (i * 5 + 2)) = some (.int .i64 q.c) ∧ w.cell? (a.add (i * 5 + 3)) = some (.int .i64 q.d) ∧ w.cell? (a.add (i * 5 + 4)) = some (.int .i64 q.n)) (fun i hi => by
      obtain ⟨n0, v0, y0, h0, t0⟩ := hc i hi 0 _ rfl
      obtain ⟨n1, v1, y1, h1, t1⟩ := hc i hi 1 _ rfl
      obtain ⟨n2, v2, y2, h2, t2⟩ := hc i hi 2 _ rfl
      obtain ⟨n3, v3, y3, h3, t3⟩ := hc i hi 3 _ rfl
      obtain ⟨n4, v4, y4, h4, t4⟩ := hc i hi 4 _ rfl
      obtain ⟨z0, e0, _, _⟩ := DataW.trod_int Tryz.underlying3 t0
      obtain ⟨z1, e1, _, _⟩ := DataW.trod_int Tryz.underlying3 t1
      obtain ⟨z2, e2, _, _⟩ := DataW.trod_int Tryz.underlying3 t2
      obtain ⟨z3, e3, _, _⟩ := DataW.trod_int Tryz.underlying3 t3
      obtain ⟨z4, e4, _, _⟩ := DataW.trod_int Tryz.underlying3 t4
      simp at e0 e1 e2 e3 e4
      subst e0 e1 e2 e3 e4
      exact ⟨⟨z0, z1, z2, z3, z4⟩, h0, h1, h2, h3, h4⟩)
    refine ⟨some a, L, cap, rfl, by omega, ?_⟩
    by_cases he : L = []
    · exact .inl he
    · have hp : 0 < L.length := by cases L; exact absurd rfl he; simp
      have h0 := (hL 0 L[0] (List.getElem?_eq_getElem hp)).1
      obtain ⟨b, off, spot⟩ := a
      have hs := World.cell?_spot h0
      simp [Addr.add] at hs
      subst hs
      refine .inr ⟨b, off, rfl, fun i x hx => ?_⟩
      obtain ⟨c0, c1, c2, c3, c4⟩ := hL i x hx
      have f : ∀ n, Addr.add ⟨b, off, none⟩ n = ⟨b, off + n, none⟩ := fun n => by
        unfold Addr.add
        split
        · rename_i h; subst h; rfl
        · rfl
      rw [f] at c0 c1 c2 c3 c4
      exact ⟨c0, by rw [Nat.add_assoc]; exact c1, by rw [Nat.add_assoc]; exact c2, by rw [Nat.add_assoc]; exact c3, by rw [Nat.add_assoc]; exact c4⟩
end
end Go.Proofs.YtpfhjdmgkckjfaaGreatDoor
