/- The chapter's first two examples.
Conditions: none. -/
import Derived.Test.YtojmagooapjohaaFermB
namespace Go.Proofs.Ytojmagooapjohaa
set_option linter.unusedVariables false
set_option linter.unusedSimpArgs false
set_option maxRecDepth 1000000
open Go.RowKit
open Um Tm Fm

theorem lies3S {w : World} {b : Nat} {x y z : Q} (h : w.heap[b]? = some (.cells #[.int .i64 x.a, .int .i64 x.b, .int .i64 x.c, .int .i64 x.d, .int .i64 x.n, .int .i64 y.a, .int .i64 y.b, .int .i64 y.c, .int .i64 y.d, .int .i64 y.n, .int .i64 z.a, .int .i64 z.b, .int .i64 z.c, .int .i64 z.d, .int .i64 z.n] 36)) : Lies w b 0 [x, y, z] := by
  intro i u hu
  match i, hu with
  | 0, hu => simp at hu; subst hu; simp [World.cell?, h]
  | 1, hu => simp at hu; subst hu; simp [World.cell?, h]
  | 2, hu => simp at hu; subst hu; simp [World.cell?, h]
  | i + 3, hu => simp at hu
theorem lies3one {w : World} {b : Nat} (h : w.heap[b]? = some (.cells #[.int .i64 1, .int .i64 0, .int .i64 0, .int .i64 0, .int .i64 1, .int .i64 1, .int .i64 0, .int .i64 0, .int .i64 0, .int .i64 1, .int .i64 1, .int .i64 0, .int .i64 0, .int .i64 0, .int .i64 1] 36)) : Lies w b 0 [one, one, one] := lies3S h
theorem heap4_1 (w : World) (o1 o2 o3 o4 : Obj) : ((((w.alloc o1).alloc o2).alloc o3).alloc o4).heap[w.heap.size + 1]? = some o2 := by
  have h1 := heap_alloc_new (w.alloc o1) o2
  rw [show (w.alloc o1).heap.size = w.heap.size + 1 by simp] at h1
  have b1 : Below ((w.alloc o1).alloc o2).heap.size ((w.alloc o1).alloc o2) ((((w.alloc o1).alloc o2).alloc o3).alloc o4) := by repeat (first | (with_reducible exact Below.refl _ _) | (with_reducible refine Below.setCell ?_ ?_ _) | (with_reducible refine Below.drew ?_) | (with_reducible refine Below.alloc ?_ ?_ _) | omega | (simp <;> omega))
  exact (b1.block (w.heap.size + 1) (by simp)).trans h1
theorem heap4_3 (w : World) (o1 o2 o3 o4 : Obj) : ((((w.alloc o1).alloc o2).alloc o3).alloc o4).heap[w.heap.size + 1 + 1 + 1]? = some o4 := by
  have := heap_alloc_new (((w.alloc o1).alloc o2).alloc o3) o4; simpa using this
theorem ones_num : NumR one 0 true := .inl ⟨0, by decide, by decide, fun j hj => by omega, rfl, rfl⟩
theorem mem3 {i : Nat} {x : Q} (h : [one, one, one][i]? = some x) : x = one := by
  match i, h with
  | 0, h => simp at h; exact h.symm
  | 1, h => simp at h; exact h.symm
  | 2, h => simp at h; exact h.symm
  | i + 3, h => simp at h
theorem cold3 : numsR 1 1 1 [one, one, one] [0, 0, 0] 0 := by
  refine .inr ⟨.inr (.inr ⟨⟨by decide, by decide, by decide, by decide, by decide, by decide, by decide⟩, by decide, .inl ⟨fun i x hx => ?_, rfl⟩⟩), .inl ⟨.inl ⟨rfl, rfl, fun i x _ hx => ?_⟩, rfl⟩⟩
  · rw [mem3 hx]; exact .inr (.inr ⟨V.one, by decide, rfl⟩)
  · have hi : i < 3 := (List.getElem?_eq_some_iff.1 hx).1
    rw [mem3 hx]
    refine ⟨0, ?_, ones_num⟩
    match i, hi with
    | 0, _ => rfl
    | 1, _ => rfl
    | 2, _ => rfl
theorem fld3 : Fld7 1 1 1 [one, one, one] 1 := by
  refine ⟨⟨by decide, by decide, by decide, by decide, by decide, by decide, by decide⟩, by decide, rfl, fun i x hx => ?_⟩
  rw [mem3 hx]; exact numR_small ones_num
theorem ex_ms : ms1 3 [⟨1, 2, 3, 4⟩] 0 2 0 := by
  refine ⟨0, .inr ⟨rfl, .inr (.inl ⟨rfl, fun i x hx => ?_, rfl⟩)⟩, .inr ⟨rfl, .inr ⟨by unfold IsM; decide, rfl⟩⟩⟩
  match i, hx with
  | 0, hx => simp at hx; subst hx; unfold InS mE; decide
  | i + 1, hx => simp at hx
theorem ex_op : opL 1 2 1 (arms 1 1 1 [one, one, one] 3) [⟨1, 2, 3, 4⟩] = [⟨8, 16, 24, 32⟩] := by decide +kernel
theorem ex_apply (bl pb : Nat) (W : World) (h1 : Lies W bl 0 [one, one, one]) (h2 : IBox W pb [1, 2, 3, 4]) : Calls Try.prog 22 #[.agg #[.int .i64 1, .int .i64 1, .int .i64 1, .slice (some ⟨bl, 0, none⟩) 3 3], .int .i64 2, .slice (some ⟨pb, 0, none⟩) 1 1] W fun e w' => (∃ g k : Nat, e = .returned (.tuple #[.slice (some ⟨g, 0, none⟩) 1 k, .int .i64 0]) ∧ Hid (LiesI w' g 0 (fl [⟨8, 16, 24, 32⟩])) ∧ W.heap.size ≤ g) ∧ Below W.heap.size W w' := by
  have := apply_ok 1 1 1 2 (some ⟨bl, 0, none⟩) (some ⟨pb, 0, none⟩) 3 1 [one, one, one] [0, 0, 0] [⟨1, 2, 3, 4⟩] W (.inr ⟨bl, 0, rfl, h1⟩) (.inr ⟨pb, 0, rfl, h2.h⟩) cold3 ex_ms 1 fld3
  refine this.mono fun e w' ⟨⟨g, k, he, hb, hg⟩, hw⟩ => ⟨⟨g, k, he, Lib.hid ?_, hg⟩, hw⟩
  have hb' := hb.h
  rw [show [one, one, one].length = 3 from rfl, ex_op] at hb'
  exact hb'
set_option maxHeartbeats 3200000 in
theorem sane7_any (w : World) : Calls Try.prog 20 #[] w fun e w' => e = .returned (.bool true) ∧ Below w.heap.size w w' := by
  have c1 := ex_apply
  have c2 := fun W : World => allowed_any 1 1 1 1 1600 0 W (.inr (.inr ⟨⟨by decide, by decide, by decide, by decide, by decide, by decide, by decide⟩, by unfold IsM; decide, by decide, rfl⟩))
  have c3 := fun (W : World) (g k pb : Nat) (h1 : LiesI W g 0 (fl [⟨8, 16, 24, 32⟩])) (h2 : IBox W pb [8, 16, 24, 32]) => sameS_some g 0 k pb 0 1 1 [⟨8, 16, 24, 32⟩] [⟨8, 16, 24, 32⟩] W true h1 h2.h rfl rfl (by decide) (decide_eq_true rfl).symm
  go_enter Try.func20, Try.ntmps20
  go_wp2_with (first | ((with_reducible refine (c1 _ _ _ (lies3one (heap4_1 _ _ _ _ _)) (IBox.fresh4 (T := 95) (heap4_3 _ _ _ _ _))).mono ?_); clear c1; rintro e w1 ⟨⟨g, k, rfl, hl, hg⟩, hw1⟩; have s1 := hw1.size; simp at s1) | ((with_reducible refine (c2 _).mono ?_); clear c2; rintro e w2 ⟨rfl, hw2⟩) | ((with_reducible refine (c3 _ _ _ _ (hl.out.later (by repeat (first | (with_reducible exact Below.refl _ _) | (with_reducible refine Below.setCell ?_ ?_ _) | (with_reducible refine Below.drew ?_) | (with_reducible refine Below.alloc ?_ ?_ _) | (with_reducible refine Below.trans ?_ (Below.mono hw2 ?_)) | (with_reducible exact hw2.size) | omega | (simp <;> omega) | (simp <;> (have s := hw2.size; omega)) | (have s0 := hw2.size; (try simp at s0); (try simp); omega)))) (IBox.fresh4 (T := 95) (heap_alloc_new _ _))).mono ?_); clear c3; rintro e w3 ⟨rfl, hw3⟩))
  go_ret
  exact ⟨rfl, by repeat (first | (with_reducible exact Below.refl _ _) | (with_reducible refine Below.setCell ?_ ?_ _) | (with_reducible refine Below.drew ?_) | (with_reducible refine Below.alloc ?_ ?_ _) | (with_reducible refine Below.trans ?_ (Below.mono hw3 ?_)) | (with_reducible refine Below.trans ?_ (Below.mono hw2 ?_)) | (with_reducible refine Below.trans ?_ (Below.mono hw1 ?_)) | (with_reducible exact hw3.size) | (with_reducible exact hw2.size) | (with_reducible exact hw1.size) | omega | (simp <;> omega) | (simp <;> (have s := hw3.size; omega)) | (simp <;> (have s := hw2.size; omega)) | (simp <;> (have s := hw1.size; omega)) | (have s0 := hw3.size; (try simp at s0); have s1 := hw2.size; (try simp at s1); have s2 := hw1.size; (try simp at s2); (try simp); omega))⟩
end Go.Proofs.Ytojmagooapjohaa
