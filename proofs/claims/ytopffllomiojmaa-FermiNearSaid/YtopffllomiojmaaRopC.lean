/- The operator, as the document's answers make it.
Conditions: the field is valid and small, its links and the vector lie in memory. -/
import Derived.Test.YtopffllomiojmaaRhC
namespace Go.Proofs.Ytopffllomiojmaa
set_option linter.unusedVariables false
set_option linter.unusedSimpArgs false
set_option maxRecDepth 1000000
open Go.RowKit
open Um Tm Fm

theorem fl_take_snoc {X : List Sp} {i : Nat} {x : Sp} (h : X[i]? = some x) : (fl (X.take (i + 1))).map vi = (fl (X.take i)).map vi ++ s4 x := by
  have hi : i < X.length := (List.getElem?_eq_some_iff.1 h).1
  rw [List.take_succ_eq_append_getElem hi, (List.getElem?_eq_some_iff.1 h).2, fl_snoc]
theorem opL_at (k ma : Int) {n i : Nat} (A : List Arm) (M : List Sp) (h : i < n) : (opL k ma n A M)[i]? = some (axS k (axS (4 * ma) zs (at0 M i)) (at0 (hopL n A M) i)) := tab_at _ h
set_option maxHeartbeats 6400000 in
theorem operator_any (a b c ma k : Int) (bl off cap pb po pc n : Nat) (L : List Q) (M : List Sp) (w : World) (hF : Fld7 a b c L n) (hma : IsM ma) (hL : Lies w bl off L) (hM : LiesI w pb po (fl M)) (hn : M.length = n) : Calls Try.prog 65 #[.agg #[.int .i64 a, .int .i64 b, .int .i64 c, .slice (some ⟨bl, off, none⟩) L.length cap], .int .i64 ma, .slice (some ⟨pb, po, none⟩) n pc, .int .i64 k] w fun e w' => (∃ g kk : Nat, e = .returned (.slice (some ⟨g, 0, none⟩) n kk) ∧ LiesI w' g 0 (fl (opL k ma n (arms a b c L L.length) M)) ∧ w.heap.size ≤ g) ∧ Below w.heap.size w w' := by
  obtain ⟨i0, hi, hz0, hz1, hz2⟩ := info_parts infoS
  have hps := hF.pos
  have HL := Lib.hid hL
  have HM := Lib.hid hM
  have HN := Lib.hid hn
  have hlm := fl_lt hM (by omega)
  have c1 := fun (W : World) (h1 : Lies W bl off L) (h2 : LiesI W pb po (fl M)) => refHop_any a b c bl off cap pb po pc n L M W hF h1 h2 hn
  obtain ⟨m1, m2⟩ := hma
  have e4 : IntKind.i64.wrap (4 * ma) = 4 * ma := IntWalk.i64_in _ (by omega)
  have HA := Lib.hid (fun i (h : i < n) => opL_at k ma (arms a b c L L.length) M h)
  have HLO := Lib.hid (opL_len k ma n (arms a b c L L.length) M)
  have HHL := Lib.hid (hopL_len n (arms a b c L L.length) M)
  clear hF hL hM hn
  generalize opL k ma n (arms a b c L L.length) M = X at *
  generalize hopL n (arms a b c L L.length) M = Hh at *
  have kc := @Tail.cell_re
  have kc1 : ∀ (W : World) (o : Obj) (d : Nat) (os : Array Obj) (a : Addr), a.block ≤ W.heap.size → (Sort.grow (redrawn (W.alloc o) d) os).cell? a = (W.alloc o).cell? a := fun W o d os a h => Tail.cell_re (W.alloc o) d os a (Nat.lt_of_le_of_lt h (by simp))
  go_enter Try.func65, Try.ntmps65
  go_wp2_with ((with_reducible refine (c1 _ (HL.out.later (by repeat (first | (with_reducible exact Below.refl _ _) | (with_reducible refine Below.setCell ?_ ?_ _) | (with_reducible refine Below.drew ?_) | (with_reducible refine Below.alloc ?_ ?_ _) | omega | (simp <;> omega)))) (HM.out.later (by repeat (first | (with_reducible exact Below.refl _ _) | (with_reducible refine Below.setCell ?_ ?_ _) | (with_reducible refine Below.drew ?_) | (with_reducible refine Below.alloc ?_ ?_ _) | omega | (simp <;> omega))))).mono ?_); clear c1; rintro e w1 ⟨⟨gh, kh, rfl, hbh, hgh⟩, hw1⟩; have HBH := Lib.hid hbh.liesI; have hlh := hbh.lt; clear hbh)
  have HW1 := Lib.hid (show Below w.heap.size w w1 by repeat (first | (with_reducible exact Below.refl _ _) | (with_reducible refine Below.setCell ?_ ?_ _) | (with_reducible refine Below.drew ?_) | (with_reducible refine Below.alloc ?_ ?_ _) | (with_reducible refine Below.trans ?_ (Below.mono hw1 ?_)) | (with_reducible exact hw1.size) | omega | (simp <;> omega) | (simp <;> (have s := hw1.size; omega)) | (have s0 := hw1.size; (try simp at s0); (try simp); omega)))
  have hpm : pb < w1.heap.size := Nat.lt_of_lt_of_le hlm HW1.out.size
  have HM1 := Lib.hid (HM.out.later HW1.out)
  clear hw1
  go_loopw [10, 11] (fun f q wr => ∃ (i : Nat) (v : Value), i ≤ n ∧ q = .int .i64 i ∧ v = f ∧ Hid (wr.ownsRow w1.heap.size 64 4 v i ((fl (X.take i)).map vi)) ∧ Hid (Below w1.heap.size w1 wr)) (fun _ q _ => n - (intOf q).toNat)
  case atStart => exact ⟨0, _, by omega, rfl, rfl, Lib.hid (World.ownsRow_nil _ _ _ _), Lib.hid (Below.refl _ _)⟩
  case round =>
    obtain ⟨i, v, hin, rfl, rfl, hown, hb⟩ := hrel
    have hbs := hb.out.size
    by_cases hlt : i < n
    · have i1 : (i : Int) < (n : Int) := by omega
      have him : i < M.length := by have := HN.out; omega
      have hih : i < Hh.length := by have := HHL.out; omega
      obtain ⟨x0, x1, x2, x3⟩ := four_at (HM1.out.later hb.out) (List.getElem?_eq_getElem him)
      obtain ⟨y0, y1, y2, y3⟩ := four_at (HBH.out.later hb.out) (List.getElem?_eq_getElem hih)
      have lx : pb < wr.heap.size := by omega
      have ly : gh < wr.heap.size := by omega
      have hX := HA.out i hlt
      rw [at0_of (List.getElem?_eq_getElem him), at0_of (List.getElem?_eq_getElem hih)] at hX
      have hsn := fl_take_snoc hX
      have hxi := (List.getElem?_eq_some_iff.1 hX).1
      generalize M[i] = x at *
      generalize Hh[i] = y at *
      have ca : ∀ W : World, Calls Try.prog 88 #[.agg #[.int .i64 0, .int .i64 0, .int .i64 0, .int .i64 0], .agg #[.int .i64 x.a, .int .i64 x.b, .int .i64 x.c, .int .i64 x.d], .int .i64 (4 * ma)] W fun e w' => e = .returned (.agg #[.int .i64 (axS (4 * ma) zs x).a, .int .i64 (axS (4 * ma) zs x).b, .int .i64 (axS (4 * ma) zs x).c, .int .i64 (axS (4 * ma) zs x).d]) ∧ Below W.heap.size W w' := fun W => refAdd7_any zs x (4 * ma) W
      have ca2 : ∀ W : World, Calls Try.prog 88 #[.agg #[.int .i64 (axS (4 * ma) zs x).a, .int .i64 (axS (4 * ma) zs x).b, .int .i64 (axS (4 * ma) zs x).c, .int .i64 (axS (4 * ma) zs x).d], .agg #[.int .i64 y.a, .int .i64 y.b, .int .i64 y.c, .int .i64 y.d], .int .i64 k] W fun e w' => e = .returned (.agg #[.int .i64 (axS k (axS (4 * ma) zs x) y).a, .int .i64 (axS k (axS (4 * ma) zs x) y).b, .int .i64 (axS k (axS (4 * ma) zs x) y).c, .int .i64 (axS k (axS (4 * ma) zs x) y).d]) ∧ Below W.heap.size W w' := fun W => refAdd7_any (axS (4 * ma) zs x) y k W
      have HSN := Lib.hid hsn
      clear hsn hX
      generalize axS k (axS (4 * ma) zs x) y = V at *
      generalize axS (4 * ma) zs x = r1 at *
      simp only [Nat.zero_add] at y0 y1 y2 y3
      go_wp2
      apply Made.region_one 15 (.cells (s4 V).toArray 64) (fun g => .slice (some ⟨g, 0, none⟩) 1 1) (some 36) (by kernel_rfl) (by kernel_rfl) (by kernel_rfl)
      · intro B hB
        have kc := @Tail.cell_re
        have hcB := Tail.cells hB
        have zB0 := Nat.lt_of_lt_of_le lx hB.size
        have zB1 := Nat.lt_of_lt_of_le ly hB.size
        simp only [List.take_succ_cons, List.take_zero]
        repeat (go_big_quiet_step (first | (with_reducible exact Calls.regrown_of (ca _)) | (with_reducible exact Calls.regrown_of (ca2 _))))
        exact wpQuiet_nil rfl
      · refine ⟨_, rfl, rfl, fun W => ⟨rfl, ?_⟩⟩
        simp [execOp, go_sem, s4, vi]
      intro g w2 hg hw2 hx2
      show wpList _ _ _ (List.drop 16 _) _ _
      simp only [List.drop_succ_cons, List.drop_zero]
      have z0 := Wide.cell_at hx2 0 _ rfl
      have z1 := Wide.cell_at hx2 1 _ rfl
      have z2 := Wide.cell_at hx2 2 _ rfl
      have z3 := Wide.cell_at hx2 3 _ rfl
      have HO2 := Lib.hid (owned_later hown.out hw2)
      have B2 := hb.out.trans (hw2.mono hb.out.size)
      have hb2 := B2.size
      clear x0 x1 x2 x3 y0 y1 y2 y3 hown hb hw2
      go_wp2_with (at_builtin; refine wpList_append_own _ rfl (.tmp 21) (.tmp 36) 26 rfl w1.heap.size 64 i0 _ 4 32 Try.underlying26 hi hz0 hz1 hz2 rfl (by decide) v i ((fl (X.take i)).map vi) rfl HO2.out ⟨g, 0, none⟩ 1 1 (s4 V) rfl rfl (four_news z0 z1 z2 z3) (four_ones _) (by unfold maxLen; omega) (by omega) (by omega) ?_; intro v' w4 hown4 hgrow4 _)
      have hfr := owned_from HO2.out
      have b4 := B2.grown hgrow4 (by omega) (fun j hj => by have := hfr j hj; omega)
      rw [← HSN.out] at hown4
      have HO4 := Lib.hid hown4
      have HB4 := Lib.hid b4
      clear hown4 hgrow4 b4 B2
      go_wp2
      exact ⟨⟨i + 1, _, by omega, by go_num, rfl, HO4, HB4⟩, by simp [intOf]; omega⟩
    · obtain rfl : i = n := by omega
      have hown2 := hown.out
      rw [show X.take i = X by rw [← HLO.out, List.take_length]] at hown2
      obtain ⟨gv, cv, rfl, hgv, hli⟩ := owned_liesS hown2 (by omega) HLO.out
      have HLI := Lib.hid hli
      clear hown hown2 hli
      go_wp2
      go_ret
      have hsz := HW1.out.size
      exact ⟨⟨gv, cv, rfl, HLI.out, by omega⟩, HW1.out.trans (hb.out.mono hsz)⟩
end Go.Proofs.Ytopffllomiojmaa
