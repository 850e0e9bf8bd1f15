/- Copies of sums of loops, as the document makes them; appends as steps of a region.
Conditions: those written at each theorem. -/
import Derived.Test.YtjidbajcnomceaaLoopF
import Derived.Test.YtjidbajcnomceaaLoopS
namespace Go.Proofs.Ytjidbajcnomceaa
set_option linter.unusedVariables false
set_option linter.unusedSimpArgs false
set_option maxRecDepth 1000000
open Go.RowKit Go.Sort
open Um Tm Lm

theorem step_append_ints {ops : Array Oper} {o : Oper} {a : Act} {w : World} {K : Act → World → Prop} {Q : Exit → Act → World → Prop} {E : Prop} (hgd : o.guard = none) (s x : Operand)
    (ho : o.op = .call { callee := .builtin .append, args := #[s, x], argTypes := #[22, 22] })
    (base : Nat) (v : Value) (n : Nat) (xs : List Value) (ao : Option Addr) (c : Nat) (l : List Int) (hs : a.eval s = v) (hx : a.eval x = .slice ao l.length c) (hown : w.ownsRow base 3 1 v n xs) (h : LiesOI w ao l) (hb : base ≤ w.heap.size) (hn : n + l.length ≤ 1000000)
    (hK : ∀ v' w', w'.ownsRow base 3 1 v' (n + l.length) (xs ++ l.map vi) → w.grownBy w' v.ownBlock → K (a.put o.dst v') w') :
    if Region.wanted o (yielded ops a.tmps) = true then Oper.wp Try.prog o a w K Q else E := by
  have hw : Region.wanted o (yielded ops a.tmps) = true := by simp [Region.wanted, hgd]
  rw [if_pos hw]
  obtain ⟨v', w', hrun, r1, r2⟩ := run_append_ints w o.type base v n xs ao c l hown h hb hn
  unfold Oper.wp
  simp [execOp, ho, resolve, invoke, builtin, hs, hx, hrun, Result.andThen]
  exact hK _ _ r1 r2
theorem step_append_E {ops : Array Oper} {o : Oper} {a : Act} {w : World} {K : Act → World → Prop} {Q : Exit → Act → World → Prop} {E' : Prop} (hgd : o.guard = none) (s x : Operand)
    (ho : o.op = .call { callee := .builtin .append, args := #[s, x], argTypes := #[29, 29] })
    (base : Nat) (v : Value) (n : Nat) (xs : List Value) (ao : Option Addr) (c : Nat) (l : List E) (hs : a.eval s = v) (hx : a.eval x = .slice ao l.length c) (hown : w.ownsRow base 37 2 v n xs) (h : RowsO 2 ec w ao l) (hb : base ≤ w.heap.size) (hn : n + l.length ≤ 1000000)
    (hK : ∀ v' w', w'.ownsRow base 37 2 v' (n + l.length) (xs ++ l.flatMap ec) → w.grownBy w' v.ownBlock → K (a.put o.dst v') w') :
    if Region.wanted o (yielded ops a.tmps) = true then Oper.wp Try.prog o a w K Q else E' := by
  have hw : Region.wanted o (yielded ops a.tmps) = true := by simp [Region.wanted, hgd]
  rw [if_pos hw]
  obtain ⟨v', w', hrun, r1, r2⟩ := run_append_E w o.type base v n xs ao c l hown h hb hn
  unfold Oper.wp
  simp [execOp, ho, resolve, invoke, builtin, hs, hx, hrun, Result.andThen]
  exact hK _ _ r1 r2
theorem own_part {w : World} {B B' e e' size size' n n' : Nat} {v v' : Value} {xs xs' : List Value} (h : w.ownsRow B e size v n xs) (h' : w.ownsRow B' e' size' v' n' xs') (hne : e ≠ e') : v.ownBlock = none ∨ v.ownBlock ≠ v'.ownBlock := by
  rcases h.2 with ⟨rfl, _⟩ | ⟨g, cap, cur, rfl, _, hgg, _⟩
  · exact .inl rfl
  · rcases h'.2 with ⟨rfl, _⟩ | ⟨g', cap', cur', rfl, _, hgg', _⟩
    · exact .inr (by simp [Value.ownBlock])
    · refine .inr fun he => ?_
      simp only [Value.ownBlock, Option.some.injEq] at he
      subst he
      rw [hgg] at hgg'
      simp only [Option.some.injEq, Obj.cells.injEq] at hgg'
      exact hne hgg'.2.1
/-- paths that the call owns -/
def PI (w : World) (B : Nat) (es : List E) : Prop := ∀ e ∈ es, w.ownsRow B 3 1 (.slice e.a e.p.length e.k) e.p.length (e.p.map vi)
theorem PI.later {w w1 : World} {B : Nat} {es : List E} (h : PI w B es) (hb : Below w.heap.size w w1) : PI w1 B es := fun e he => owned_later (h e he) hb
theorem PI.kept {w w1 : World} {B base n : Nat} {v : Value} {xs : List Value} {es : List E} (h : PI w B es) (hown : w.ownsRow base 37 2 v n xs) (hg : w.grownBy w1 v.ownBlock) : PI w1 B es := fun e he => (h e he).kept hg (own_part (h e he) hown (by decide))
theorem PI.o {w : World} {B : Nat} {es : List E} (h : PI w B es) : EO w es := fun e he => by
  obtain ⟨ao, c, hv, hl, -⟩ := owned_liesNI (h e he)
  simp only [Value.slice.injEq, true_and] at hv
  rw [hv.1]
  exact hl.o
set_option maxHeartbeats 6400000 in
theorem refCopy_any (ao : Option Addr) (cap : Nat) (l : List E) (w : World) (h : Trs w ao l) (hf : l.length ≤ 10000 ∧ ∀ e ∈ l, e.p.length ≤ 100000) : Calls Try.prog 16 #[.slice ao l.length cap] w fun e w' => ∃ a c, ∃ es : List E, e = .returned (.slice a es.length c) ∧ Trs w' a es ∧ tm es = tm l ∧ Below w.heap.size w w' := by
  obtain ⟨hl, hp⟩ := hf
  have H := Lib.hid h
  have HP := Lib.hid hp
  clear h hp
  have kc := @Tail.cell_re
  have kc1 : ∀ (W : World) (o : Obj) (d : Nat) (os : Array Obj) (a : Addr), a.block ≤ W.heap.size → (Sort.grow (redrawn (W.alloc o) d) os).cell? a = (W.alloc o).cell? a := fun W o d os a h => Tail.cell_re (W.alloc o) d os a (Nat.lt_of_le_of_lt h (by simp))
  go_enter Try.func16, Try.ntmps16
  go_wp2
  go_loopw [3, 4] (fun f q wr => ∃ (i : Nat) (es : List E) (ro : Option Addr) (rc : Nat), i ≤ l.length ∧ Hid (es.length = i) ∧ q = .int .i64 i ∧ f = .slice ro i rc ∧ Hid (wr.ownsRow w.heap.size 37 2 (.slice ro i rc) i (es.flatMap ec)) ∧ Hid (PI wr w.heap.size es) ∧ Hid (tm es = (tm l).take i) ∧ Below w.heap.size w wr) (fun _ q _ => l.length - (intOf q).toNat)
  case atStart => exact ⟨0, [], none, 0, by omega, Lib.hid rfl, rfl, rfl, Lib.hid (World.ownsRow_nil _ _ _ _), Lib.hid (fun e he => by simp at he), Lib.hid (by simp [tm]), by repeat (first | (with_reducible exact Below.refl _ _) | (with_reducible refine Below.setCell ?_ ?_ _) | (with_reducible refine Below.drew ?_) | (with_reducible refine Below.alloc ?_ ?_ _) | omega | (simp <;> omega))⟩
  case round =>
    obtain ⟨i, es, ro, rc, hi, hei, rfl, rfl, HF, HI, HM, hb⟩ := hrel
    by_cases hlt : i < l.length
    · have i1 : (i : Int) < (l.length : Int) := by omega
      obtain ⟨b, off, rfl, u0, -, -⟩ := H.out.at_ hlt
      have lbw := World.block_lt_of_cell? w _ u0
      obtain ⟨b', off', he, x0, x1, hx⟩ := (H.out.later hb).at_ hlt
      simp only [Option.some.injEq, Addr.mk.injEq, and_true] at he
      obtain ⟨rfl, rfl⟩ := he
      have hpl := HP.out _ (List.getElem_mem hlt)
      have hnext : (tm l).take (i + 1) = (tm l).take i ++ [(l[i].c, l[i].p)] := by
        rw [List.take_succ_eq_append_getElem (by rw [tm_len]; exact hlt), tm_get]
      have lb := World.block_lt_of_cell? wr _ x0
      generalize l[i] = x at *
      obtain ⟨c, p, pa, pk⟩ := x
      simp only at *
      have HX := Lib.hid hx
      have HN := Lib.hid hnext
      have hbs := hb.size
      clear hx hnext u0
      have hbA : Below wr.heap.size wr (wr.alloc (.cells #[] 3)).drew := by repeat (first | (with_reducible exact Below.refl _ _) | (with_reducible refine Below.setCell ?_ ?_ _) | (with_reducible refine Below.drew ?_) | (with_reducible refine Below.alloc ?_ ?_ _) | omega | (simp <;> omega))
      have ho0 : (wr.alloc (.cells #[] 3)).drew.ownsRow w.heap.size 3 1 (.slice (some ⟨wr.heap.size, 0, none⟩) 0 0) 0 [] := (World.ownsRow_lit wr #[] 0 hbs (by unfold maxLen; omega) (by simp)).drew
      have HO0 := Lib.hid ho0
      have hne3 : some b ≠ (Value.slice ro i rc).ownBlock := fun e => absurd (HF.out.lt b e.symm).1 (by omega)
      clear ho0
      go_wp2
      go_region_held3 (fun w' => w'.cell? ⟨b, off + i * 2, none⟩ = some (.int .i64 c) ∧ w'.cell? ⟨b, off + i * 2 + 1, none⟩ = some (.slice pa p.length pk))
        (first
          | (exact ⟨hgrow3.cell (cell_keep (W := wr) (by repeat (first | (with_reducible exact Below.refl _ _) | (with_reducible refine Below.setCell ?_ ?_ _) | (with_reducible refine Below.drew ?_) | (with_reducible refine Below.alloc ?_ ?_ _) | (with_reducible refine Below.trans ?_ (Below.mono bX2 ?_)) | (with_reducible exact bX2.size) | omega | (simp <;> omega) | (simp <;> (have s := bX2.size; omega)) | (have s0 := bX2.size; (try simp at s0); (try simp); omega))) x0) hne3, hgrow3.cell (cell_keep (W := wr) (by repeat (first | (with_reducible exact Below.refl _ _) | (with_reducible refine Below.setCell ?_ ?_ _) | (with_reducible refine Below.drew ?_) | (with_reducible refine Below.alloc ?_ ?_ _) | (with_reducible refine Below.trans ?_ (Below.mono bX2 ?_)) | (with_reducible exact bX2.size) | omega | (simp <;> omega) | (simp <;> (have s := bX2.size; omega)) | (have s0 := bX2.size; (try simp at s0); (try simp); omega))) x1) hne3⟩)
          | (exact ⟨cell_keep (W := wr) (by repeat (first | (with_reducible exact Below.refl _ _) | (with_reducible refine Below.setCell ?_ ?_ _) | (with_reducible refine Below.drew ?_) | (with_reducible refine Below.alloc ?_ ?_ _) | (with_reducible refine Below.trans ?_ (Below.mono bX2 ?_)) | (with_reducible exact bX2.size) | omega | (simp <;> omega) | (simp <;> (have s := bX2.size; omega)) | (have s0 := bX2.size; (try simp at s0); (try simp); omega))) x0, cell_keep (W := wr) (by repeat (first | (with_reducible exact Below.refl _ _) | (with_reducible refine Below.setCell ?_ ?_ _) | (with_reducible refine Below.drew ?_) | (with_reducible refine Below.alloc ?_ ?_ _) | (with_reducible refine Below.trans ?_ (Below.mono bX2 ?_)) | (with_reducible exact bX2.size) | omega | (simp <;> omega) | (simp <;> (have s := bX2.size; omega)) | (have s0 := bX2.size; (try simp at s0); (try simp); omega))) x1⟩)
          | go_keep)
        ((first
          | (refine step_append_ints (by rfl) _ _ (by rfl) w.heap.size (.slice (some ⟨wr.heap.size, 0, none⟩) 0 0) 0 [] pa pk p (by rfl) (by rfl) HO0.out (HX.out.later (by repeat (first | (with_reducible exact Below.refl _ _) | (with_reducible refine Below.setCell ?_ ?_ _) | (with_reducible refine Below.drew ?_) | (with_reducible refine Below.alloc ?_ ?_ _) | omega | (simp <;> omega)))) (by simp; omega) (by omega) ?_; intro v2 w2 hown2 hgrow2; have bX2 : Below wr.heap.size wr w2 := (Below.grown hbA hgrow2 hbA.size (fun j hj => by simp [Value.ownBlock] at hj; omega)); have hw2 : w2.ownsRow w.heap.size 3 1 v2 p.length (p.map vi) := (by simpa using hown2); obtain ⟨a2, k2, rfl, -, -⟩ := owned_liesNI hw2; have HW2 := Lib.hid hw2; have HF2 := Lib.hid (owned_later HF.out bX2); have HI2 := Lib.hid (HI.out.later bX2); have sX2 := bX2.size; clear hown2 hw2)
          | (refine step_append_E (by rfl) _ _ (by rfl) w.heap.size (.slice ro i rc) i (es.flatMap ec) (some ⟨w2.heap.size, 0, none⟩) 1 [(⟨c, p, a2, k2⟩ : E)] (by rfl) (by rfl) (HF2.out.alloc _) (rows_one w2 ⟨c, p, a2, k2⟩) (by simp; omega) (by simp; omega) ?_; intro v3 w3 hown3 hgrow3)))
      have hs2 : w2.heap.size ≤ (w2.alloc (.cells #[.int .i64 c, .slice a2 p.length k2] 37)).heap.size := by simp
      have hb2 : Below w.heap.size w w2 := hb.trans (bX2.mono hbs)
      have hb3 : Below w.heap.size w w3 := (hb2.alloc hb2.size (.cells #[.int .i64 c, .slice a2 p.length k2] 37)).grown hgrow3 (by simp; omega) (fun j hj => (HF.out.lt j hj).1)
      have hI3 : PI w3 w.heap.size (es ++ [(⟨c, p, a2, k2⟩ : E)]) := by
        have ha : PI (w2.alloc (.cells #[.int .i64 c, .slice a2 p.length k2] 37)) w.heap.size (es ++ [(⟨c, p, a2, k2⟩ : E)]) := fun e he => by
          rcases List.mem_append.1 he with he | he
          · exact (HI2.out e he).alloc _
          · rw [List.mem_singleton] at he
            subst he
            exact HW2.out.alloc _
        exact ha.kept (HF2.out.alloc _) hgrow3
      have hF3 : w3.ownsRow w.heap.size 37 2 v3 (i + 1) ((es ++ [(⟨c, p, a2, k2⟩ : E)]).flatMap ec) := by simpa using hown3
      have hM3 : tm (es ++ [(⟨c, p, a2, k2⟩ : E)]) = (tm l).take (i + 1) := by
        rw [HN.out, ← HM.out]
        simp [tm]
      have hl3 : (es ++ [(⟨c, p, a2, k2⟩ : E)]).length = i + 1 := by rw [List.length_append, hei.out]; rfl
      obtain ⟨ro3, rc3, rfl⟩ : ∃ ro3 rc3, v3 = .slice ro3 (i + 1) rc3 := by
        rcases hF3.2 with ⟨-, h0⟩ | ⟨g', cap', cur, hv, -⟩
        · omega
        · exact ⟨_, _, hv⟩
      have HF3 := Lib.hid hF3
      have HI3 := Lib.hid hI3
      have HM3 := Lib.hid hM3
      have HL3 := Lib.hid hl3
      clear hF3 hI3 hM3 hl3 hown3 hgrow3 hne3 HF HI HM HF2 HI2 HW2 HO0 bX2 hbA hb hb2 hs2 HX HN x0 x1 hei
      go_wp2
      exact ⟨⟨i + 1, _, ro3, rc3, by omega, HL3, by go_num, rfl, HF3, HI3, HM3, hb3⟩, by simp [intOf]; omega⟩
    · obtain rfl : l.length = i := by omega
      have hM : tm es = tm l := by have := HM.out; rwa [List.take_of_length_le (by rw [tm_len]; omega)] at this
      have HM2 := Lib.hid hM
      have hF := HF.out
      rw [← hei.out] at hF
      obtain ⟨a, k, hv, hrow, -⟩ := owned_rowsN ec_len hF
      have HR := Lib.hid hrow
      have HV := Lib.hid hv
      clear hM HM hF hrow hv HF
      go_wp2
      go_ret
      refine ⟨ro, rc, es, by rw [hei.out]; rfl, ⟨?_, HI.out.o⟩, HM2.out, hb⟩
      have hv := HV.out
      rw [hei.out] at hv
      simp only [Value.slice.injEq, true_and] at hv
      rw [hv.1]
      exact HR.out.o
end Go.Proofs.Ytjidbajcnomceaa
