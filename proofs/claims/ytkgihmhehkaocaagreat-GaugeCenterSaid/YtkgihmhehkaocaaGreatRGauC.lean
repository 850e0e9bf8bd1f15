/- What lies in memory behind a call in a region that draws its order.
Conditions: those written at each theorem. -/
import Derived.Test.YtkgihmhehkaocaaGreatRWlkA
import Derived.Deep.RegionHeld3
import Derived.Test.YtkgihmhehkaocaaGreatRQuatB
import Derived.Test.YtkgihmhehkaocaaGreatRQuatA
import Derived.Test.YtkgihmhehkaocaaGreatRGauA
import Derived.Test.YtkgihmhehkaocaaGreatRGauB
import Derived.Test.YtkgihmhehkaocaaGreatRLinksC
import Derived.Test.YtkgihmhehkaocaaGreatRAlongC
import Derived.Test.YtkgihmhehkaocaaGreatRProduct
namespace Go.Proofs.YtkgihmhehkaocaaGreat
set_option linter.unusedVariables false
set_option linter.unusedSimpArgs false
set_option maxRecDepth 1000000
open Go.RowKit

theorem belDG {w w1 : World} (h : Below w.drew.heap.size w.drew w1) : Below w.heap.size w w1 := ⟨h.os, h.tape, h.output, h.size, h.block⟩
theorem held_belowG {W W1 : World} {b i : Nat} {v : Value} (h : Below W.heap.size W W1) (hc : W.cell? ⟨b, i, none⟩ = some v) : W1.cell? ⟨b, i, none⟩ = some v := (h.cell (World.block_lt_of_cell? W _ hc)).trans hc
theorem alloc_atG {w : World} {o : Obj} : (w.alloc o).heap[w.heap.size]? = some o := by
  show (w.heap.push o)[w.heap.size]? = some o
  simp
open Um
theorem one_boxI {w : World} {b : Nat} {x : Q} (h : LBox w b [x]) : (w.cell? ⟨b, 0, none⟩ = some (.int .i64 x.a) ∧ w.cell? ⟨b, 1, none⟩ = some (.int .i64 x.b) ∧ w.cell? ⟨b, 2, none⟩ = some (.int .i64 x.c) ∧ w.cell? ⟨b, 3, none⟩ = some (.int .i64 x.d) ∧ w.cell? ⟨b, 4, none⟩ = some (.int .i64 x.n)) ∧ (∀ j, w.frozen? ⟨b, j, none⟩ = false) ∧ b < w.heap.size := ⟨by simpa using h.h 0 x rfl, h.free, h.lt⟩
theorem owned5_form' {w : World} {base : Nat} {T : TypeId} {v : Value} {n : Nat} {xs : List Value} (h : w.ownsRow base T 5 v n xs) : ∃ ao cap, v = .slice ao n cap := by
  rcases h.2 with ⟨h', h0⟩ | ⟨g', cap', cur, h', hb, hg, _⟩
  · exact ⟨none, 0, by rw [h', h0]⟩
  · exact ⟨_, _, h'⟩
end Go.Proofs.YtkgihmhehkaocaaGreat

/- Products of two units in lowest terms, without a limit, as the document's answers make them.
Conditions: the bounds written at each theorem. -/
namespace Go.Proofs.YtkgihmhehkaocaaGreat
set_option linter.unusedVariables false
set_option linter.unusedSimpArgs false
set_option maxRecDepth 1000000
open Go.RowKit
open Um

end Go.Proofs.YtkgihmhehkaocaaGreat

/- A field that is transformed, as the program makes it.
Conditions: those written at each theorem. -/
namespace Go.Proofs.YtkgihmhehkaocaaGreat
set_option linter.unusedVariables false
set_option linter.unusedSimpArgs false
set_option maxRecDepth 1000000
open Go.RowKit
open Um Tm

/-- link k of the transformed field -/
def tfK (a b c : Int) (L G : List Q) (k : Nat) : Q := low (mul (mul (lk G ((k / 3 : Nat) : Int)) (lk L (k : Int))) (bar (lk G (ahd a b c k))))
/-- the links of the transformed field -/
def tfL (a b c : Int) (L G : List Q) : List Q := (List.range L.length).map (tfK a b c L G)
theorem tfL_len (a b c : Int) (L G : List Q) : (tfL a b c L G).length = L.length := by simp [tfL]
theorem tfL_get {a b c : Int} {L G : List Q} {k : Nat} (hk : k < L.length) : (tfL a b c L G)[k]? = some (tfK a b c L G k) := by
  simp [tfL, hk]
/-- a list of units that a field of so many links can be transformed by -/
structure Gg (L G : List Q) : Prop where
  n : 3 * G.length = L.length
  v : ∀ (i : Nat) (x : Q), G[i]? = some x → V x ∧ x.n ≤ 5
theorem lies3 {w : World} {g : Nat} {T : TypeId} {x y z : Q} (h : w.heap[g]? = some (.cells (uc x ++ uc y ++ uc z).toArray T)) : Lies w g 0 [x, y, z] := fun i u hu => by
  match i, hu with
  | 0, hu => simp at hu; subst hu; exact ⟨Wide.cell_at h 0 _ rfl, Wide.cell_at h 1 _ rfl, Wide.cell_at h 2 _ rfl, Wide.cell_at h 3 _ rfl, Wide.cell_at h 4 _ rfl⟩
  | 1, hu => simp at hu; subst hu; exact ⟨Wide.cell_at h 5 _ rfl, Wide.cell_at h 6 _ rfl, Wide.cell_at h 7 _ rfl, Wide.cell_at h 8 _ rfl, Wide.cell_at h 9 _ rfl⟩
  | 2, hu => simp at hu; subst hu; exact ⟨Wide.cell_at h 10 _ rfl, Wide.cell_at h 11 _ rfl, Wide.cell_at h 12 _ rfl, Wide.cell_at h 13 _ rfl, Wide.cell_at h 14 _ rfl⟩
  | n + 3, hu => simp at hu
theorem lies3n {w : World} {T : TypeId} {x y z : Q} : Lies (w.alloc (.cells #[.int .i64 x.a, .int .i64 x.b, .int .i64 x.c, .int .i64 x.d, .int .i64 x.n, .int .i64 y.a, .int .i64 y.b, .int .i64 y.c, .int .i64 y.d, .int .i64 y.n, .int .i64 z.a, .int .i64 z.b, .int .i64 z.c, .int .i64 z.d, .int .i64 z.n] T)) w.heap.size 0 [x, y, z] := lies3 (g := w.heap.size) (T := T) alloc_atG
theorem fm3 (x y z : Q) : fm [x, y, z] = mul (mul x y) z := by
  simp [fm, one_mul']
theorem lk_at {L : List Q} {i : Nat} (h : i < L.length) : L[i]? = some (lk L (i : Int)) := by
  have := lk_get (L := L) (i := (i : Int)) (by omega) (by omega)
  simpa using this
theorem ahd_rng {a b c : Int} (hz : Sz a b c) (k : Nat) : 0 ≤ ahd a b c k ∧ ahd a b c k < a * b * c := nx_rng hz _ _
theorem one_box {w : World} {b : Nat} {x : Q} (h : LBox w b [x]) : (w.cell? ⟨b, 0, none⟩ = some (.int .i64 x.a) ∧ w.cell? ⟨b, 1, none⟩ = some (.int .i64 x.b) ∧ w.cell? ⟨b, 2, none⟩ = some (.int .i64 x.c) ∧ w.cell? ⟨b, 3, none⟩ = some (.int .i64 x.d) ∧ w.cell? ⟨b, 4, none⟩ = some (.int .i64 x.n)) ∧ (∀ j, w.frozen? ⟨b, j, none⟩ = false) ∧ b < w.heap.size := ⟨by simpa using h.h 0 x rfl, h.free, h.lt⟩
set_option maxHeartbeats 3200000 in
theorem trd_any (a b c : Int) (bl off cap gl goff gc k : Nat) (L G : List Q) (w : World) (hl : Lies w bl off L) (hg : Lies w gl goff G) (hF : Fl a b c L) (hG : Gg L G) (hk : k < L.length) :
    Calls Tryz.prog 33 #[.agg #[.int .i64 a, .int .i64 b, .int .i64 c, .slice (some ⟨bl, off, none⟩) L.length cap], .slice (some ⟨gl, goff, none⟩) G.length gc, .int .i64 k] w fun e w' => e = .returned (.tuple #[.agg #[.int .i64 (tfK a b c L G k).a, .int .i64 (tfK a b c L G k).b, .int .i64 (tfK a b c L G k).c, .int .i64 (tfK a b c L G k).d, .int .i64 (tfK a b c L G k).n], .int .i64 0]) ∧ Below w.heap.size w w' := by
  have hz := hF.z
  have hn := hF.n
  have hgn := hG.n
  have c1 := fun W : World => ends_ok a b c k W hz (by omega)
  obtain ⟨t0, t1⟩ := ahd_rng hz k
  have hx := lk_at (L := G) (i := k / 3) (by omega)
  have hy := lk_at (L := L) (i := k) hk
  obtain ⟨t, ht⟩ : ∃ t : Nat, ahd a b c k = (t : Int) := ⟨(ahd a b c k).toNat, by omega⟩
  have hzz := lk_at (L := G) (i := t) (by omega)
  obtain ⟨vx, x5⟩ := hG.v _ _ hx
  obtain ⟨vz, z5⟩ := hG.v _ _ hzz
  obtain ⟨vy, y5⟩ := hF.v _ _ hy
  have it : (t : Int) < (G.length : Int) := by omega
  have ik : (k : Int) < (L.length : Int) := by omega
  have ik3 : ((k / 3 : Nat) : Int) < (G.length : Int) := by omega
  have hT : tfK a b c L G k = low (mul (mul (lk G ((k / 3 : Nat) : Int)) (lk L (k : Int))) (bar (lk G (t : Int)))) := by rw [tfK, ht]
  rw [ht] at c1
  rw [hT]
  have c2 := fun W : World => inv_ok (lk G (t : Int)) W vz
  have hp := prod_links [lk G ((k / 3 : Nat) : Int), lk L (k : Int), bar (lk G (t : Int))] (fun u hu => by
    simp only [List.mem_cons, List.not_mem_nil, or_false] at hu
    rcases hu with rfl | rfl | rfl
    · exact ⟨vx, x5⟩
    · exact ⟨vy, y5⟩
    · exact ⟨vz.bar, z5⟩) (by simp)
  rw [fm3] at hp
  have c3 := fun (W : World) (B : Nat) (h : Lies W B 0 [lk G ((k / 3 : Nat) : Int), lk L (k : Int), bar (lk G (t : Int))]) => quatProduct_some B 0 3 _ _ _ W h (fun u hu => by
    simp only [List.mem_cons, List.not_mem_nil, or_false] at hu
    rcases hu with rfl | rfl | rfl
    · exact vx
    · exact vy
    · exact vz.bar) (by simp) hp
  have gw : gl < w.heap.size := World.block_lt_of_cell? _ _ (hg _ _ hx).1
  have bw : bl < w.heap.size := World.block_lt_of_cell? _ _ (hl _ _ hy).1
  have H := Lib.hid hl
  have HG := Lib.hid hg
  have HX := Lib.hid hx
  have HY := Lib.hid hy
  have HZ := Lib.hid hzz
  clear hl hg hx hy hzz hF hG hz hn hgn t0 t1 ht vx vy vz x5 y5 z5 hT hp hk
  generalize lk G ((k / 3 : Nat) : Int) = x at *
  generalize lk L (k : Int) = y at *
  generalize lk G (t : Int) = z at *
  generalize low (mul (mul x y) (bar z)) = r at *
  generalize bar z = z' at *
  generalize k / 3 = q at *
  go_enter Tryz.func33, Tryz.ntmps33
  have F0 := Lib.hid (FW.n2a (w := w) (x := a) (y := b) (z := c) (v := .slice (some ⟨bl, off, none⟩) L.length cap) (T := 25) (o := .cells #[.int .i64 0, .int .i64 0, .int .i64 0, .int .i64 0, .int .i64 0] 55))
  have R0 : LBox ((w.alloc (.cells #[.int .i64 a, .int .i64 b, .int .i64 c, .slice (some ⟨bl, off, none⟩) L.length cap] 25)).alloc (.cells #[.int .i64 0, .int .i64 0, .int .i64 0, .int .i64 0, .int .i64 0] 55)) (w.heap.size + 1) [zero] := ⟨fun i u hu => by
    match i, hu with
    | 0, hu => simp at hu; subst hu; exact ⟨by simp [go_sem, zero], by simp [go_sem, zero], by simp [go_sem, zero], by simp [go_sem, zero], by simp [go_sem, zero]⟩
    | n + 1, hu => simp at hu, fun j => by simp [go_sem], by simp⟩
  have HR0 := Lib.hid R0
  clear R0
  go_wp2_with (fail)
  refine (c1 _).mono ?_
  rintro e w1 ⟨rfl, hw1⟩
  have F1 := Lib.hid (F0.out.later hw1)
  have R1 := Lib.hid (HR0.out.later hw1)
  have b1 : Below w.heap.size w w1 := bel2 hw1
  clear c1 F0 HR0 hw1
  obtain ⟨l0, l1, l2, l3, l4⟩ := (HG.out.later b1) _ _ HZ.out
  go_wp2_with (fail)
  refine (c2 _).mono ?_
  rintro e w2 ⟨rfl, hw2⟩
  have F2 := Lib.hid (F1.out.later hw2)
  have R2 := Lib.hid (R1.out.later hw2)
  have b2 := b1.trans (hw2.mono b1.size)
  clear c2 F1 R1 hw2 l0 l1 l2 l3 l4 b1
  go_wp2
  have rw2 := R2.out.lt
  have BX : Below w2.heap.size w2 (w2.alloc (.cells #[.int .i64 z'.a, .int .i64 z'.b, .int .i64 z'.c, .int .i64 z'.d, .int .i64 z'.n] 55)) := ba1
  have Z3 : LBox (w2.alloc (.cells #[.int .i64 z'.a, .int .i64 z'.b, .int .i64 z'.c, .int .i64 z'.d, .int .i64 z'.n] 55)) w2.heap.size [z'] := ⟨fun i u hu => by
    match i, hu with
    | 0, hu => simp at hu; subst hu; exact ⟨by simp [go_sem], by simp [go_sem], by simp [go_sem], by simp [go_sem], by simp [go_sem]⟩
    | n + 1, hu => simp at hu, fun j => by simp [go_sem], by simp⟩
  have b3 := b2.trans (BX.mono b2.size)
  have F3 := Lib.hid (F2.out.later BX)
  have R3 := Lib.hid (R2.out.later BX)
  have HZ3 := Lib.hid Z3
  clear BX Z3 F2 R2 b2
  generalize w2.alloc (.cells #[.int .i64 z'.a, .int .i64 z'.b, .int .i64 z'.c, .int .i64 z'.d, .int .i64 z'.n] 55) = X at *
  generalize w2.heap.size = B2 at *
  obtain ⟨l0, l1, l2, l3, l4⟩ := (HG.out.later b3) _ _ HX.out
  obtain ⟨m0, m1, m2, m3, m4⟩ := (H.out.later b3) _ _ HY.out
  obtain ⟨z0, z1, z2, z3, z4⟩ := HZ3.out.h 0 _ rfl
  obtain ⟨f0, f1, f2, f3, ff, fl⟩ := F3.out
  have lb1 : gl < X.heap.size := World.block_lt_of_cell? _ _ l0
  have lb2 : bl < X.heap.size := World.block_lt_of_cell? _ _ m0
  have lb3 : B2 < X.heap.size := World.block_lt_of_cell? _ _ z0
  simp only [Nat.zero_add, Nat.zero_mul] at z0 z1 z2 z3 z4
  have hX := b3.size
  have c4 : ∀ W : World, Calls Tryz.prog 65 #[.slice (some ⟨W.heap.size, 0, none⟩) 3 3] (W.alloc (.cells #[.int .i64 x.a, .int .i64 x.b, .int .i64 x.c, .int .i64 x.d, .int .i64 x.n, .int .i64 y.a, .int .i64 y.b, .int .i64 y.c, .int .i64 y.d, .int .i64 y.n, .int .i64 z'.a, .int .i64 z'.b, .int .i64 z'.c, .int .i64 z'.d, .int .i64 z'.n] 55)).drew fun e w' => e = .returned (.tuple #[.agg #[.int .i64 r.a, .int .i64 r.b, .int .i64 r.c, .int .i64 r.d, .int .i64 r.n], .int .i64 0]) ∧ Below (W.alloc (.cells #[.int .i64 x.a, .int .i64 x.b, .int .i64 x.c, .int .i64 x.d, .int .i64 x.n, .int .i64 y.a, .int .i64 y.b, .int .i64 y.c, .int .i64 y.d, .int .i64 y.n, .int .i64 z'.a, .int .i64 z'.b, .int .i64 z'.c, .int .i64 z'.d, .int .i64 z'.n] 55)).drew.heap.size (W.alloc (.cells #[.int .i64 x.a, .int .i64 x.b, .int .i64 x.c, .int .i64 x.d, .int .i64 x.n, .int .i64 y.a, .int .i64 y.b, .int .i64 y.c, .int .i64 y.d, .int .i64 y.n, .int .i64 z'.a, .int .i64 z'.b, .int .i64 z'.c, .int .i64 z'.d, .int .i64 z'.n] 55)).drew w' := fun W => c3 _ _ (fun i u hu => lies3n i u hu)
  clear c3
  have K5 : Hid (∀ w' : World, Below X.heap.size X w' → (w'.cell? ⟨gl, goff + q * 5, none⟩ = some (.int .i64 x.a) ∧ w'.cell? ⟨gl, goff + q * 5 + 1, none⟩ = some (.int .i64 x.b) ∧ w'.cell? ⟨gl, goff + q * 5 + 2, none⟩ = some (.int .i64 x.c) ∧ w'.cell? ⟨gl, goff + q * 5 + 3, none⟩ = some (.int .i64 x.d) ∧ w'.cell? ⟨gl, goff + q * 5 + 4, none⟩ = some (.int .i64 x.n) ∧ w'.cell? ⟨bl, off + k * 5, none⟩ = some (.int .i64 y.a) ∧ w'.cell? ⟨bl, off + k * 5 + 1, none⟩ = some (.int .i64 y.b) ∧ w'.cell? ⟨bl, off + k * 5 + 2, none⟩ = some (.int .i64 y.c) ∧ w'.cell? ⟨bl, off + k * 5 + 3, none⟩ = some (.int .i64 y.d) ∧ w'.cell? ⟨bl, off + k * 5 + 4, none⟩ = some (.int .i64 y.n) ∧ w'.cell? ⟨B2, 0, none⟩ = some (.int .i64 z'.a) ∧ w'.cell? ⟨B2, 1, none⟩ = some (.int .i64 z'.b) ∧ w'.cell? ⟨B2, 2, none⟩ = some (.int .i64 z'.c) ∧ w'.cell? ⟨B2, 3, none⟩ = some (.int .i64 z'.d) ∧ w'.cell? ⟨B2, 4, none⟩ = some (.int .i64 z'.n) ∧ w'.cell? ⟨w.heap.size, 3, none⟩ = some (.slice (some ⟨bl, off, none⟩) L.length cap))) := Lib.hid (fun w' h => ⟨held_belowG h l0, held_belowG h l1, held_belowG h l2, held_belowG h l3, held_belowG h l4, held_belowG h m0, held_belowG h m1, held_belowG h m2, held_belowG h m3, held_belowG h m4, held_belowG h z0, held_belowG h z1, held_belowG h z2, held_belowG h z3, held_belowG h z4, held_belowG h f3⟩)
  have ng : some gl ≠ some (w.heap.size + 1) := fun e => by have := Option.some.inj e; omega
  have nb : some bl ≠ some (w.heap.size + 1) := fun e => by have := Option.some.inj e; omega
  have nz : some B2 ≠ some (w.heap.size + 1) := fun e => by have := Option.some.inj e; omega
  have nf : some w.heap.size ≠ some (w.heap.size + 1) := fun e => by have := Option.some.inj e; omega
  have K6 : Hid (∀ w' : World, Below X.heap.size X w' → ((((((w'.setCell ⟨w.heap.size + 1, 0, none⟩ (.int .i64 r.a)).setCell ⟨w.heap.size + 1, 1, none⟩ (.int .i64 r.b)).setCell ⟨w.heap.size + 1, 2, none⟩ (.int .i64 r.c)).setCell ⟨w.heap.size + 1, 3, none⟩ (.int .i64 r.d)).setCell ⟨w.heap.size + 1, 4, none⟩ (.int .i64 r.n)).cell? ⟨gl, goff + q * 5, none⟩ = some (.int .i64 x.a) ∧ (((((w'.setCell ⟨w.heap.size + 1, 0, none⟩ (.int .i64 r.a)).setCell ⟨w.heap.size + 1, 1, none⟩ (.int .i64 r.b)).setCell ⟨w.heap.size + 1, 2, none⟩ (.int .i64 r.c)).setCell ⟨w.heap.size + 1, 3, none⟩ (.int .i64 r.d)).setCell ⟨w.heap.size + 1, 4, none⟩ (.int .i64 r.n)).cell? ⟨gl, goff + q * 5 + 1, none⟩ = some (.int .i64 x.b) ∧ (((((w'.setCell ⟨w.heap.size + 1, 0, none⟩ (.int .i64 r.a)).setCell ⟨w.heap.size + 1, 1, none⟩ (.int .i64 r.b)).setCell ⟨w.heap.size + 1, 2, none⟩ (.int .i64 r.c)).setCell ⟨w.heap.size + 1, 3, none⟩ (.int .i64 r.d)).setCell ⟨w.heap.size + 1, 4, none⟩ (.int .i64 r.n)).cell? ⟨gl, goff + q * 5 + 2, none⟩ = some (.int .i64 x.c) ∧ (((((w'.setCell ⟨w.heap.size + 1, 0, none⟩ (.int .i64 r.a)).setCell ⟨w.heap.size + 1, 1, none⟩ (.int .i64 r.b)).setCell ⟨w.heap.size + 1, 2, none⟩ (.int .i64 r.c)).setCell ⟨w.heap.size + 1, 3, none⟩ (.int .i64 r.d)).setCell ⟨w.heap.size + 1, 4, none⟩ (.int .i64 r.n)).cell? ⟨gl, goff + q * 5 + 3, none⟩ = some (.int .i64 x.d) ∧ (((((w'.setCell ⟨w.heap.size + 1, 0, none⟩ (.int .i64 r.a)).setCell ⟨w.heap.size + 1, 1, none⟩ (.int .i64 r.b)).setCell ⟨w.heap.size + 1, 2, none⟩ (.int .i64 r.c)).setCell ⟨w.heap.size + 1, 3, none⟩ (.int .i64 r.d)).setCell ⟨w.heap.size + 1, 4, none⟩ (.int .i64 r.n)).cell? ⟨gl, goff + q * 5 + 4, none⟩ = some (.int .i64 x.n) ∧ (((((w'.setCell ⟨w.heap.size + 1, 0, none⟩ (.int .i64 r.a)).setCell ⟨w.heap.size + 1, 1, none⟩ (.int .i64 r.b)).setCell ⟨w.heap.size + 1, 2, none⟩ (.int .i64 r.c)).setCell ⟨w.heap.size + 1, 3, none⟩ (.int .i64 r.d)).setCell ⟨w.heap.size + 1, 4, none⟩ (.int .i64 r.n)).cell? ⟨bl, off + k * 5, none⟩ = some (.int .i64 y.a) ∧ (((((w'.setCell ⟨w.heap.size + 1, 0, none⟩ (.int .i64 r.a)).setCell ⟨w.heap.size + 1, 1, none⟩ (.int .i64 r.b)).setCell ⟨w.heap.size + 1, 2, none⟩ (.int .i64 r.c)).setCell ⟨w.heap.size + 1, 3, none⟩ (.int .i64 r.d)).setCell ⟨w.heap.size + 1, 4, none⟩ (.int .i64 r.n)).cell? ⟨bl, off + k * 5 + 1, none⟩ = some (.int .i64 y.b) ∧ (((((w'.setCell ⟨w.heap.size + 1, 0, none⟩ (.int .i64 r.a)).setCell ⟨w.heap.size + 1, 1, none⟩ (.int .i64 r.b)).setCell ⟨w.heap.size + 1, 2, none⟩ (.int .i64 r.c)).setCell ⟨w.heap.size + 1, 3, none⟩ (.int .i64 r.d)).setCell ⟨w.heap.size + 1, 4, none⟩ (.int .i64 r.n)).cell? ⟨bl, off + k * 5 + 2, none⟩ = some (.int .i64 y.c) ∧ (((((w'.setCell ⟨w.heap.size + 1, 0, none⟩ (.int .i64 r.a)).setCell ⟨w.heap.size + 1, 1, none⟩ (.int .i64 r.b)).setCell ⟨w.heap.size + 1, 2, none⟩ (.int .i64 r.c)).setCell ⟨w.heap.size + 1, 3, none⟩ (.int .i64 r.d)).setCell ⟨w.heap.size + 1, 4, none⟩ (.int .i64 r.n)).cell? ⟨bl, off + k * 5 + 3, none⟩ = some (.int .i64 y.d) ∧ (((((w'.setCell ⟨w.heap.size + 1, 0, none⟩ (.int .i64 r.a)).setCell ⟨w.heap.size + 1, 1, none⟩ (.int .i64 r.b)).setCell ⟨w.heap.size + 1, 2, none⟩ (.int .i64 r.c)).setCell ⟨w.heap.size + 1, 3, none⟩ (.int .i64 r.d)).setCell ⟨w.heap.size + 1, 4, none⟩ (.int .i64 r.n)).cell? ⟨bl, off + k * 5 + 4, none⟩ = some (.int .i64 y.n) ∧ (((((w'.setCell ⟨w.heap.size + 1, 0, none⟩ (.int .i64 r.a)).setCell ⟨w.heap.size + 1, 1, none⟩ (.int .i64 r.b)).setCell ⟨w.heap.size + 1, 2, none⟩ (.int .i64 r.c)).setCell ⟨w.heap.size + 1, 3, none⟩ (.int .i64 r.d)).setCell ⟨w.heap.size + 1, 4, none⟩ (.int .i64 r.n)).cell? ⟨B2, 0, none⟩ = some (.int .i64 z'.a) ∧ (((((w'.setCell ⟨w.heap.size + 1, 0, none⟩ (.int .i64 r.a)).setCell ⟨w.heap.size + 1, 1, none⟩ (.int .i64 r.b)).setCell ⟨w.heap.size + 1, 2, none⟩ (.int .i64 r.c)).setCell ⟨w.heap.size + 1, 3, none⟩ (.int .i64 r.d)).setCell ⟨w.heap.size + 1, 4, none⟩ (.int .i64 r.n)).cell? ⟨B2, 1, none⟩ = some (.int .i64 z'.b) ∧ (((((w'.setCell ⟨w.heap.size + 1, 0, none⟩ (.int .i64 r.a)).setCell ⟨w.heap.size + 1, 1, none⟩ (.int .i64 r.b)).setCell ⟨w.heap.size + 1, 2, none⟩ (.int .i64 r.c)).setCell ⟨w.heap.size + 1, 3, none⟩ (.int .i64 r.d)).setCell ⟨w.heap.size + 1, 4, none⟩ (.int .i64 r.n)).cell? ⟨B2, 2, none⟩ = some (.int .i64 z'.c) ∧ (((((w'.setCell ⟨w.heap.size + 1, 0, none⟩ (.int .i64 r.a)).setCell ⟨w.heap.size + 1, 1, none⟩ (.int .i64 r.b)).setCell ⟨w.heap.size + 1, 2, none⟩ (.int .i64 r.c)).setCell ⟨w.heap.size + 1, 3, none⟩ (.int .i64 r.d)).setCell ⟨w.heap.size + 1, 4, none⟩ (.int .i64 r.n)).cell? ⟨B2, 3, none⟩ = some (.int .i64 z'.d) ∧ (((((w'.setCell ⟨w.heap.size + 1, 0, none⟩ (.int .i64 r.a)).setCell ⟨w.heap.size + 1, 1, none⟩ (.int .i64 r.b)).setCell ⟨w.heap.size + 1, 2, none⟩ (.int .i64 r.c)).setCell ⟨w.heap.size + 1, 3, none⟩ (.int .i64 r.d)).setCell ⟨w.heap.size + 1, 4, none⟩ (.int .i64 r.n)).cell? ⟨B2, 4, none⟩ = some (.int .i64 z'.n) ∧ (((((w'.setCell ⟨w.heap.size + 1, 0, none⟩ (.int .i64 r.a)).setCell ⟨w.heap.size + 1, 1, none⟩ (.int .i64 r.b)).setCell ⟨w.heap.size + 1, 2, none⟩ (.int .i64 r.c)).setCell ⟨w.heap.size + 1, 3, none⟩ (.int .i64 r.d)).setCell ⟨w.heap.size + 1, 4, none⟩ (.int .i64 r.n)).cell? ⟨w.heap.size, 3, none⟩ = some (.slice (some ⟨bl, off, none⟩) L.length cap))) := Lib.hid (fun w' h => ⟨(grown_setCells (w.heap.size + 1) (uc r) 0 w').cell (held_belowG h l0) ng, (grown_setCells (w.heap.size + 1) (uc r) 0 w').cell (held_belowG h l1) ng, (grown_setCells (w.heap.size + 1) (uc r) 0 w').cell (held_belowG h l2) ng, (grown_setCells (w.heap.size + 1) (uc r) 0 w').cell (held_belowG h l3) ng, (grown_setCells (w.heap.size + 1) (uc r) 0 w').cell (held_belowG h l4) ng, (grown_setCells (w.heap.size + 1) (uc r) 0 w').cell (held_belowG h m0) nb, (grown_setCells (w.heap.size + 1) (uc r) 0 w').cell (held_belowG h m1) nb, (grown_setCells (w.heap.size + 1) (uc r) 0 w').cell (held_belowG h m2) nb, (grown_setCells (w.heap.size + 1) (uc r) 0 w').cell (held_belowG h m3) nb, (grown_setCells (w.heap.size + 1) (uc r) 0 w').cell (held_belowG h m4) nb, (grown_setCells (w.heap.size + 1) (uc r) 0 w').cell (held_belowG h z0) nz, (grown_setCells (w.heap.size + 1) (uc r) 0 w').cell (held_belowG h z1) nz, (grown_setCells (w.heap.size + 1) (uc r) 0 w').cell (held_belowG h z2) nz, (grown_setCells (w.heap.size + 1) (uc r) 0 w').cell (held_belowG h z3) nz, (grown_setCells (w.heap.size + 1) (uc r) 0 w').cell (held_belowG h z4) nz, (grown_setCells (w.heap.size + 1) (uc r) 0 w').cell (held_belowG h f3) nf⟩)
  go_region_held3 (fun w' => w'.cell? ⟨gl, goff + q * 5, none⟩ = some (.int .i64 x.a) ∧ w'.cell? ⟨gl, goff + q * 5 + 1, none⟩ = some (.int .i64 x.b) ∧ w'.cell? ⟨gl, goff + q * 5 + 2, none⟩ = some (.int .i64 x.c) ∧ w'.cell? ⟨gl, goff + q * 5 + 3, none⟩ = some (.int .i64 x.d) ∧ w'.cell? ⟨gl, goff + q * 5 + 4, none⟩ = some (.int .i64 x.n) ∧ w'.cell? ⟨bl, off + k * 5, none⟩ = some (.int .i64 y.a) ∧ w'.cell? ⟨bl, off + k * 5 + 1, none⟩ = some (.int .i64 y.b) ∧ w'.cell? ⟨bl, off + k * 5 + 2, none⟩ = some (.int .i64 y.c) ∧ w'.cell? ⟨bl, off + k * 5 + 3, none⟩ = some (.int .i64 y.d) ∧ w'.cell? ⟨bl, off + k * 5 + 4, none⟩ = some (.int .i64 y.n) ∧ w'.cell? ⟨B2, 0, none⟩ = some (.int .i64 z'.a) ∧ w'.cell? ⟨B2, 1, none⟩ = some (.int .i64 z'.b) ∧ w'.cell? ⟨B2, 2, none⟩ = some (.int .i64 z'.c) ∧ w'.cell? ⟨B2, 3, none⟩ = some (.int .i64 z'.d) ∧ w'.cell? ⟨B2, 4, none⟩ = some (.int .i64 z'.n) ∧ w'.cell? ⟨w.heap.size, 3, none⟩ = some (.slice (some ⟨bl, off, none⟩) L.length cap))
    (first
      | (with_reducible exact K5.out _ B5)
      | (with_reducible exact K6.out _ B5)
      | (with_reducible exact K5.out _ (Below.refl _ _))
      | go_keep)
    (first
      | ((with_reducible refine (c4 _).mono ?_); rintro e w5 ⟨rfl, hw5⟩; have B5 := bel1 (belDG hw5); obtain ⟨⟨r0, r1, r2, r3, r4⟩, rf, rl⟩ := one_box (R3.out.later B5)))
  all_goals
    have b5 := b3.trans (B5.mono hX)
    go_wp2
    refine bodyPost_ret (v := .tuple #[.agg #[.int .i64 r.a, .int .i64 r.b, .int .i64 r.c, .int .i64 r.d, .int .i64 r.n], .int .i64 0]) ?_ rfl ⟨rfl, ?_⟩
    · simp [results, Tryz.results33, go_sem, r0, r1, r2, r3, r4, rl]
    · repeat (first | (with_reducible exact Below.refl _ _) | (with_reducible refine Below.setCell ?_ ?_ _) | (with_reducible refine Below.drew ?_) | (with_reducible refine Below.alloc ?_ ?_ _) | (with_reducible refine Below.trans ?_ (Below.mono b5 ?_)) | (with_reducible exact b5.size) | omega | (simp <;> omega) | (simp <;> (have s := b5.size; omega)) | (have s0 := b5.size; (try simp at s0); (try simp); omega))
end Go.Proofs.YtkgihmhehkaocaaGreat

/- A field that is transformed, as the program makes it: all links.
Conditions: those written at each theorem. -/
namespace Go.Proofs.YtkgihmhehkaocaaGreat
set_option linter.unusedVariables false
set_option linter.unusedSimpArgs false
set_option maxRecDepth 1000000
open Go.RowKit
open Um Tm

theorem gaR_Gg {a b c : Int} {L G : List Q} (h : gaR a b c L G 0) : Gg L G := ⟨(gaR_ok h).2.1, (gaR_ok h).2.2⟩
theorem gaR_Fl {a b c : Int} {L G : List Q} (h : gaR a b c L G 0) : Fl a b c L := ⟨(fldR_ok (gaR_ok h).1).1, (fldR_ok (gaR_ok h).1).2.1, (fldR_ok (gaR_ok h).1).2.2⟩
/-- what Transform answers -/
def RetGF (a b c : Int) (T : List Q) (n B : Nat) (e : Ending) (w' : World) : Prop :=
  (Lim T ∧ ∃ g k : Nat, e = .returned (.tuple #[.agg #[.int .i64 a, .int .i64 b, .int .i64 c, .slice (some ⟨g, 0, none⟩) n k], .int .i64 0]) ∧ LBox w' g T ∧ B ≤ g) ∨ (¬ Lim T ∧ e = .returned (.tuple #[.agg #[.int .i64 0, .int .i64 0, .int .i64 0, .slice none 0 0], .int .i64 3]))
set_option maxHeartbeats 6400000 in
theorem gaT_ok (a b c : Int) (bl off gl goff cap gc : Nat) (L G : List Q) (w : World) (h : Lies w bl off L) (hg : Lies w gl goff G) (hr : gaR a b c L G 0) : Calls Tryz.prog 14 #[.agg #[.int .i64 a, .int .i64 b, .int .i64 c, .slice (some ⟨bl, off, none⟩) L.length cap], .slice (some ⟨gl, goff, none⟩) G.length gc] w fun e w' => RetGF a b c (tfL a b c L G) L.length w.heap.size e w' ∧ Below w.heap.size w w' := by
  have hG := gaR_Gg hr
  have hF := gaR_Fl hr
  have hz := hF.z
  have hln := hF.n
  have hp16 := hz.p
  obtain ⟨-, -, p3, -⟩ := mul_rng hz.a1 hz.a4 hz.b1 hz.b4 hz.c1 hz.c4
  have hpos : 0 < L.length := by omega
  have hl48 : L.length ≤ 48 := by omega
  have hgn := hG.n
  have c1 := fun (W : World) (h : LiesO W (some ⟨bl, off, none⟩) L) (hg : LiesO W (some ⟨gl, goff, none⟩) G) => gaV_any a b c 0 (some ⟨bl, off, none⟩) (some ⟨gl, goff, none⟩) cap gc L G W h hg hr (by omega) (by omega)
  have c2 : ∀ (k : Nat) (hk : k < L.length) (W : World), Lies W bl off L → Lies W gl goff G → Calls Tryz.prog 33 #[.agg #[.int .i64 a, .int .i64 b, .int .i64 c, .slice (some ⟨bl, off, none⟩) L.length cap], .slice (some ⟨gl, goff, none⟩) G.length gc, .int .i64 k] W fun e w' => e = .returned (.tuple #[.agg #[.int .i64 (tfK a b c L G k).a, .int .i64 (tfK a b c L G k).b, .int .i64 (tfK a b c L G k).c, .int .i64 (tfK a b c L G k).d, .int .i64 (tfK a b c L G k).n], .int .i64 0]) ∧ Below W.heap.size W w' := fun k hk W h1 h2 => trd_any a b c bl off cap gl goff gc k L G W h1 h2 hF hG hk
  have c3 := fun (B cc : Nat) (W : World) (h : Lies W B 0 (tfL a b c L G)) => limited_any B 0 cc (tfL a b c L G) W h (by rw [tfL_len]; omega)
  rw [tfL_len] at c3
  have ht : ∀ (k : Nat) (hk : k < L.length), ((tfL a b c L G).take (k + 1)).flatMap uc = ((tfL a b c L G).take k).flatMap uc ++ uc (tfK a b c L G k) := fun k hk => by
    rw [uc_take (by rw [tfL_len]; exact hk)]
    have := tfL_get (a := a) (b := b) (c := c) (G := G) hk
    rw [(List.getElem?_eq_some_iff.1 this).2]
  obtain ⟨i0, hi, hz0, hz1, hz2⟩ := info_parts infoU
  have H := Lib.hid h
  have HG := Lib.hid hg
  have HC := Lib.hid c2
  have HT := Lib.hid ht
  have hl2 : L.length ≤ maxLen := by unfold maxLen; omega
  have hl3 : i0.bytes * L.length ≤ 281474976710656 := by rw [hz2]; omega
  have H0 := Lib.hid (show ((tfL a b c L G).take 0).flatMap uc = [] by rw [List.take_zero]; rfl)
  have HF := Lib.hid (show (tfL a b c L G).take L.length = tfL a b c L G from List.take_of_length_le (by rw [tfL_len]; omega))
  have HM := Lib.hid (show L.length = (tfL a b c L G).length by rw [tfL_len])
  have HP := Lib.hid hpos
  clear h hg hr hG hF hz hln hp16 p3 hgn c2 ht hpos
  generalize hT : tfL a b c L G = T at *
  clear hT
  go_enter Tryz.func14, Tryz.ntmps14
  have f0 : FW ((w.alloc (.cells #[.int .i64 a, .int .i64 b, .int .i64 c, .slice (some ⟨bl, off, none⟩) L.length cap] 25)).alloc (.cells #[.int .i64 0, .int .i64 0, .int .i64 0, .slice none 0 0] 25)) w.heap.size a b c (.slice (some ⟨bl, off, none⟩) L.length cap) := FW.n2a
  have r0 : FW ((w.alloc (.cells #[.int .i64 a, .int .i64 b, .int .i64 c, .slice (some ⟨bl, off, none⟩) L.length cap] 25)).alloc (.cells #[.int .i64 0, .int .i64 0, .int .i64 0, .slice none 0 0] 25)) (w.heap.size + 1) 0 0 0 (.slice none 0 0) := FW.n2b
  have F0 := Lib.hid f0
  have R0 := Lib.hid r0
  clear f0 r0
  go_wp2_with (fail)
  refine (c1 _ (.inr ⟨bl, off, rfl, H.out.later ba2⟩) (.inr ⟨gl, goff, rfl, HG.out.later ba2⟩)).mono ?_
  rintro e w1 ⟨rfl, hw1⟩
  have b1 : Below w.heap.size w w1 := bel2 hw1
  have F1 := Lib.hid (F0.out.later hw1)
  have R1 := Lib.hid (R0.out.later hw1)
  have rl1 := R1.out.lt
  clear c1 hw1 F0 R0
  obtain ⟨f0, f1, f2, f3, ff, fl⟩ := F1.out
  go_wp2_with (at_make; refine wpList_make_own _ rfl _ _ 23 rfl w1.heap.size 55 i0 _ 5 Tryz.underlying23 hi hz0 hz1 _ _ _ L.length rfl rfl rfl hl3 hl2 (Nat.le_refl _) ?_; intro w2 hown hgrow; have b2 : Below w1.heap.size w1 w2 := (Below.refl _ _).grown hgrow (by omega) (by simp); have F2 := Lib.hid (F1.out.later b2); have R2 := Lib.hid (R1.out.later b2); obtain ⟨f0, f1, f2, f3, ff, fl⟩ := F2.out)
  have s2 : w1.heap.size + 1 ≤ w2.heap.size := by
    have := (hown.lt w1.heap.size rfl).2
    omega
  have b3 : Below w.heap.size w w2 := b1.trans (b2.mono b1.size)
  have s1 := b1.size
  clear hgrow b1 b2 F1 R1 f0 f1 f2 f3 ff fl
  generalize w1.heap.size = B at *
  go_loopw [7, 8, 9, 10, 26] (fun f _ _ _ q wr => ∃ k : Nat, k ≤ L.length ∧ q = .int .i64 k ∧ f = .slice (some ⟨B, 0, none⟩) k L.length ∧ Hid (wr.ownsRow B 55 5 (.slice (some ⟨B, 0, none⟩) k L.length) k ((T.take k).flatMap uc)) ∧ Hid (FW wr w.heap.size a b c (.slice (some ⟨bl, off, none⟩) L.length cap)) ∧ Hid (FW wr (w.heap.size + 1) 0 0 0 (.slice none 0 0)) ∧ Below w.heap.size w wr ∧ B + 1 ≤ wr.heap.size) (fun _ _ _ _ q _ => L.length - (intOf q).toNat)
  case atStart => exact ⟨0, by omega, rfl, rfl, Lib.hid (by rw [H0.out]; exact hown), F2, R2, b3, s2⟩
  case round =>
    obtain ⟨k, hk, rfl, rfl, hown, hf, hres, hb, hgs⟩ := hrel
    clear F2 R2 b3 s2
    have hbs := hb.size
    by_cases hlt : k < L.length
    · have d0 := HC.out k hlt
      have q1 := HT.out k hlt
      generalize tfK a b c L G k = y at *
      have Q1 := Lib.hid q1
      clear q1
      obtain ⟨f0, f1, f2, f3, ff, fl⟩ := hf.out
      go_wp2_with (fail)
      refine (d0 _ (H.out.later hb) (HG.out.later hb)).mono ?_
      rintro e w4 ⟨rfl, hw4⟩
      have b4 : Below w.heap.size w w4 := hb.trans (hw4.mono hbs)
      have HO4 := Lib.hid (owned_later hown.out hw4)
      have F4 := Lib.hid (hf.out.later hw4)
      have R4 := Lib.hid (hres.out.later hw4)
      have s6 := hw4.size
      clear d0 hw4 hown hf hres f0 f1 f2 f3 ff fl
      go_wp2_with (at_builtin; refine wpList_append_fits _ rfl (.tmp 40) (.tmp 42) 23 rfl B 55 i0 5 Tryz.underlying23 hi hz1 B k L.length ((T.take k).flatMap uc) rfl ((HO4.out.alloc _).alloc _) ⟨w4.heap.size + 1, 0, none⟩ 1 1 (uc y) rfl rfl (five_cells rfl (by simp [go_sem]) (by simp [go_sem]) (by simp [go_sem]) (by simp [go_sem]) (by simp [go_sem])) (five_one rfl) (by omega) ?_; intro w5 hown5 hgrow5)
      have b4s := b4.size
      have hb5 : Below w.heap.size w w5 := Below.grown (b4.trans (ba2.mono b4s)) hgrow5 (by simp; omega) (fun j hj => by simp at hj; omega)
      have ho : w5.ownsRow B 55 5 (.slice (some ⟨B, 0, none⟩) (k + 1) L.length) (k + 1) ((T.take (k + 1)).flatMap uc) := by rw [Q1.out]; exact hown5
      have s7 := hgrow5.size
      simp at s7
      have nB : some w.heap.size ≠ some B := fun e => by have := Option.some.inj e; omega
      have nB1 : some (w.heap.size + 1) ≠ some B := fun e => by have := Option.some.inj e; omega
      have F5 := Lib.hid ((F4.out.later ba2).grown hgrow5 nB)
      have R5 := Lib.hid ((R4.out.later ba2).grown hgrow5 nB1)
      clear hown5 hgrow5 F4 R4
      go_wp2
      exact ⟨⟨k + 1, by omega, by go_num, rfl, Lib.hid ho, F5, R5, hb5, by omega⟩, by simp [intOf]; omega⟩
    · obtain rfl : k = L.length := by omega
      have ho := hown.out
      rw [HF.out] at ho
      obtain ⟨LB, hgb⟩ := owned_LBox HM.out ho
      have HL := Lib.hid LB
      have gb : w.heap.size + 1 < B := by omega
      clear hown ho LB
      go_wp2_with (fail)
      refine (c3 B _ _ HL.out.h).mono ?_
      rintro e w5 ⟨(⟨hlim, rfl⟩ | ⟨hlim, rfl⟩), hw5⟩
      · obtain ⟨f0, f1, f2, f3, ff, fl⟩ := hf.out.later hw5
        obtain ⟨r0, r1, r2, r3, rf, rl⟩ := hres.out.later hw5
        have HLim := Lib.hid hlim
        have L5 := Lib.hid (HL.out.later hw5)
        have b5 := hb.trans (hw5.mono hbs)
        have gX := grown4 (w := w5) (w.heap.size + 1) (.int .i64 a) (.int .i64 b) (.int .i64 c) (.slice (some ⟨B, 0, none⟩) L.length L.length)
        have bX := b5.grown gX b5.size (fun j e => by cases e; omega)
        have LX := Lib.hid (L5.out.grown gX (fun e => by have := Option.some.inj e; omega))
        have HBX := Lib.hid bX
        clear hlim gX bX hw5 b5
        go_wp2
        refine bodyPost_ret (v := .tuple #[.agg #[.int .i64 a, .int .i64 b, .int .i64 c, .slice (some ⟨B, 0, none⟩) L.length L.length], .int .i64 0]) ?_ rfl ⟨.inl ⟨HLim.out, B, L.length, rfl, LX.out, by omega⟩, HBX.out⟩
        simp [results, Tryz.results14, go_sem, r0, r1, r2, r3]
      · obtain ⟨r0, r1, r2, r3, rf, rl⟩ := hres.out.later hw5
        have HLim := Lib.hid hlim
        have HB5 := Lib.hid (hb.trans (hw5.mono hbs))
        clear hlim hw5
        go_wp2
        refine bodyPost_ret (v := .tuple #[.agg #[.int .i64 0, .int .i64 0, .int .i64 0, .slice none 0 0], .int .i64 3]) ?_ rfl ⟨.inr ⟨HLim.out, rfl⟩, ?_⟩
        · simp [results, Tryz.results14, go_sem, r0, r1, r2, r3]
        · have b5 := HB5.out
          repeat (first | (with_reducible exact Below.refl _ _) | (with_reducible refine Below.setCell ?_ ?_ _) | (with_reducible refine Below.drew ?_) | (with_reducible refine Below.alloc ?_ ?_ _) | (with_reducible refine Below.trans ?_ (Below.mono b5 ?_)) | (with_reducible exact b5.size) | omega | (simp <;> omega) | (simp <;> (have s := b5.size; omega)) | (have s0 := b5.size; (try simp at s0); (try simp); omega))
end Go.Proofs.YtkgihmhehkaocaaGreat

/- A field that is transformed, as the document's answers make it.
Conditions: those written at each theorem. -/
namespace Go.Proofs.YtkgihmhehkaocaaGreat
set_option linter.unusedVariables false
set_option linter.unusedSimpArgs false
set_option maxRecDepth 1000000
open Go.RowKit
open Um Tm

/-- what lies between two links that are appended -/
structure RG (w : World) (p : Nat) (F : Value) (a b c : Int) (T : List Q) (W : World) (v : Value) (m : Nat) : Prop where
  own : W.ownsRow (p + 1) 55 5 v m ((T.take m).flatMap uc)
  s : FW W p a b c v
  f : FW W w.heap.size a b c F
  r : FW W (w.heap.size + 1) 0 0 0 (.slice none 0 0)
  b : Below w.heap.size w W
theorem RG.later {w : World} {p : Nat} {F : Value} {a b c : Int} {T : List Q} {W X : World} {v : Value} {m : Nat} (h : RG w p F a b c T W v m) (hb : Below W.heap.size W X) : RG w p F a b c T X v m :=
  ⟨owned_later h.own hb, h.s.later hb, h.f.later hb, h.r.later hb, h.b.trans (hb.mono h.b.size)⟩
theorem RG.app {w : World} {p : Nat} {F : Value} {a b c : Int} {T : List Q} {W X Y : World} {v v' : Value} {m : Nat} {y : Q} (h : RG w p F a b c T W v m) (hp : w.heap.size + 1 < p) (hb : Below W.heap.size W X) (hg : X.grownBy Y v.ownBlock) (ho : Y.ownsRow (p + 1) 55 5 v' (m + 1) ((T.take m).flatMap uc ++ uc y)) (hy : T[m]? = some y) : RG w p F a b c T (Y.setCell ⟨p, 3, none⟩ v') v' (m + 1) := by
  have hX := h.later hb
  have hfr := owned_from hX.own
  have k5 := grown_setCell Y ⟨p, 3, none⟩ v'
  have hm := (List.getElem?_eq_some_iff.1 hy).1
  have e : (T.take (m + 1)).flatMap uc = (T.take m).flatMap uc ++ uc y := by
    rw [List.take_succ_eq_append_getElem hm, List.flatMap_append, (List.getElem?_eq_some_iff.1 hy).2]
    simp
  refine ⟨?_, (hX.s.grown hg (owned_ne hX.own (by omega))).set3 v', (hX.f.grown hg (owned_ne hX.own (by omega))).grown k5 (by simp; omega), (hX.r.grown hg (owned_ne hX.own (by omega))).grown k5 (by simp; omega), (hX.b.grown hg hX.b.size (fun j hj => by have := hfr j hj; omega)).setCell (p := ⟨p, 3, none⟩) (by show w.heap.size ≤ p; omega) v'⟩
  rw [e]
  exact ho.kept k5 (.inr (fun e => by have := owned_from ho p e; omega))
theorem owned5_form {w : World} {base : Nat} {T : TypeId} {v : Value} {n : Nat} {xs : List Value} (h : w.ownsRow base T 5 v n xs) : ∃ ao cap, v = .slice ao n cap := by
  by_cases hn : 0 < n
  · obtain ⟨g, cap, rfl, -⟩ := owned5_some h hn
    exact ⟨_, _, rfl⟩
  · rcases h.2 with ⟨h', h0⟩ | ⟨g', cap', cur, h', hb, hg, _⟩
    · exact ⟨none, 0, by rw [h', h0]⟩
    · exact ⟨_, _, h'⟩
end Go.Proofs.YtkgihmhehkaocaaGreat

/- A field that is transformed, or an error, as the document's answers make it.
Conditions: those written at each theorem. -/
namespace Go.Proofs.YtkgihmhehkaocaaGreat
set_option linter.unusedVariables false
set_option linter.unusedSimpArgs false
set_option maxRecDepth 1000000
open Go.RowKit
open Um Tm

end Go.Proofs.YtkgihmhehkaocaaGreat
