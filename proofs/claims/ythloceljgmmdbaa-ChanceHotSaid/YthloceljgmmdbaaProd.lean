/- Products of lists of quaternions, as the program makes them.
Conditions: the list lies in memory as it is written at each theorem. -/
import Derived.Test.YthloceljgmmdbaaMulCases
import Derived.Test.YthloceljgmmdbaaRegA
namespace Go.Proofs.Ythloceljgmmdbaa
set_option linter.unusedVariables false
set_option linter.unusedSimpArgs false
open Go.RowKit
open Um

/-- A list of quaternions lies at a place of memory, five cells each. -/
def LiesQ (w : World) (b off : Nat) (L : List Q) : Prop := ∀ (i : Nat) (x : Q), L[i]? = some x →
  w.cell? ⟨b, off + i * 5, none⟩ = some (.int .i64 x.b) ∧ w.cell? ⟨b, off + i * 5 + 1, none⟩ = some (.int .i64 x.c) ∧ w.cell? ⟨b, off + i * 5 + 2, none⟩ = some (.int .i64 x.d) ∧ w.cell? ⟨b, off + i * 5 + 3, none⟩ = some (.int .i64 x.a) ∧ w.cell? ⟨b, off + i * 5 + 4, none⟩ = some (.int .i64 x.n)

theorem LiesQ.later {w w1 : World} {b off : Nat} {L : List Q} (h : LiesQ w b off L) (hb : Below w.heap.size w w1) : LiesQ w1 b off L := fun i x hx => by
  have f := h i x hx
  have g : ∀ a : Addr, ∀ v : Value, w.cell? a = some v → w1.cell? a = some v := fun a v hv => by rw [hb.cell (World.block_lt_of_cell? w a hv)]; exact hv
  exact ⟨g _ _ f.1, g _ _ f.2.1, g _ _ f.2.2.1, g _ _ f.2.2.2.1, g _ _ f.2.2.2.2⟩

/-- A unit's box: five cells that may be written. -/
structure UBox (w : World) (b : Nat) (x : Q) : Prop where
  ca : w.cell? ⟨b, 0, none⟩ = some (.int .i64 x.a)
  cb : w.cell? ⟨b, 1, none⟩ = some (.int .i64 x.b)
  cc : w.cell? ⟨b, 2, none⟩ = some (.int .i64 x.c)
  cd : w.cell? ⟨b, 3, none⟩ = some (.int .i64 x.d)
  cn : w.cell? ⟨b, 4, none⟩ = some (.int .i64 x.n)
  free : ∀ j, w.frozen? ⟨b, j, none⟩ = false
  lt : b < w.heap.size

theorem UBox.later {w w1 : World} {b : Nat} {x : Q} (h : UBox w b x) (hb : Below w.heap.size w w1) : UBox w1 b x :=
  ⟨(hb.cell h.lt).trans h.ca, (hb.cell h.lt).trans h.cb, (hb.cell h.lt).trans h.cc, (hb.cell h.lt).trans h.cd, (hb.cell h.lt).trans h.cn, fun j => (hb.frozen h.lt).trans (h.free j), Nat.lt_of_lt_of_le h.lt hb.size⟩

/-- where a product stands after some factors -/
theorem prod_step {L : List Q} {k : Nat} {p : Q} (hk : k < L.length) (h : prodFrom one (L.take k) = (p, 0)) (hl : (low (mul p L[k])).n ≤ 1048576) : prodFrom one (L.take (k + 1)) = (low (mul p L[k]), 0) := by
  rw [List.take_succ_eq_append_getElem hk, prodFrom_append _ _ _ _ h]
  simp only [prodFrom]
  rw [if_neg (by omega)]
theorem prod_large {L : List Q} {k : Nat} {p : Q} (hk : k < L.length) (h : prodFrom one (L.take k) = (p, 0)) (hl : 1048576 < (low (mul p L[k])).n) : prodFrom one L = (zero, 3) := by
  have e : prodFrom one (L.take (k + 1)) = (zero, 3) := by
    rw [List.take_succ_eq_append_getElem hk, prodFrom_append _ _ _ _ h]
    simp only [prodFrom]
    rw [if_pos hl]
  have := prodFrom_err one (L.take (k + 1)) (L.drop (k + 1)) 3 zero e (by decide)
  rwa [List.take_append_drop] at this

end Go.Proofs.Ythloceljgmmdbaa
