/- Products of lists, from the units on, as the program makes them.
Conditions: the list lies in memory as it is written at each theorem, and is not longer than 100000. -/
import Derived.Test.YtpfhjdmgkckjfaaGreatDoorARows5
import Derived.Test.YtpfhjdmgkckjfaaGreatDoorAThrM
import Derived.Test.YtpfhjdmgkckjfaaGreatDoorADist
namespace Go.Proofs.YtpfhjdmgkckjfaaGreatDoor
set_option linter.unusedVariables false
set_option linter.unusedSimpArgs false
open Go.RowKit
open Um

theorem infoQ : (Tryz.prog.info? 152).map (fun i => (i.zero, i.size, i.bytes)) = some (some (.agg #[.int .i64 0, .int .i64 0, .int .i64 0, .int .i64 0, .int .i64 0]), 5, 40) := by kernel_rfl
theorem infoU : (Tryz.prog.info? 73).map (fun i => (i.zero, i.size, i.bytes)) = some (some (.agg #[.int .i64 0, .int .i64 0, .int .i64 0, .int .i64 0, .int .i64 0]), 5, 40) := by kernel_rfl

theorem five_cells {w : World} {b : Nat} {vs : List Value} {v0 v1 v2 v3 v4 : Value} (hv : vs = [v0, v1, v2, v3, v4]) (h0 : w.cell? ⟨b, 0, none⟩ = some v0) (h1 : w.cell? ⟨b, 1, none⟩ = some v1) (h2 : w.cell? ⟨b, 2, none⟩ = some v2) (h3 : w.cell? ⟨b, 3, none⟩ = some v3) (h4 : w.cell? ⟨b, 4, none⟩ = some v4) : ∀ j u, vs[j]? = some u → w.cell? (Addr.add ⟨b, 0, none⟩ j) = some u := by
  subst hv
  intro j u hj
  match j, hj with
  | 0, hj => simp at hj; subst hj; exact h0
  | 1, hj => simp at hj; subst hj; exact h1
  | 2, hj => simp at hj; subst hj; exact h2
  | 3, hj => simp at hj; subst hj; exact h3
  | 4, hj => simp at hj; subst hj; exact h4
  | n + 5, hj => simp at hj
theorem five_one {vs : List Value} {a b c d e : Int} (hv : vs = [.int .i64 a, .int .i64 b, .int .i64 c, .int .i64 d, .int .i64 e]) : ∀ u ∈ vs, u.oneCell' = true := by
  subst hv
  intro u hu
  simp at hu
  rcases hu with rfl | rfl | rfl | rfl | rfl <;> rfl

set_option maxRecDepth 100000 in
set_option maxHeartbeats 1600000 in
theorem quatProduct_some (b off cap : Nat) (L : List Q) (r : Q) (er : Int) (w : World) (hL : Lies w b off L) (hV : ∀ x ∈ L, V x) (hlen : L.length ≤ 100000) (hr : prodFrom one L = (r, er)) :
    Calls Tryz.prog 129 #[.slice (some ⟨b, off, none⟩) L.length cap] w fun e w' => e = .returned (.tuple #[.agg #[.int .i64 r.a, .int .i64 r.b, .int .i64 r.c, .int .i64 r.d, .int .i64 r.n], .int .i64 er]) ∧ Below w.heap.size w w' := by
  have cv : ∀ W : World, Lies W b off L → Calls Tryz.prog 109 #[.slice (some ⟨b, off, none⟩) L.length cap] W fun e w' => e = .returned (.int .i64 0) ∧ Below W.heap.size W w' := fun W h => validateAll_any b off cap L W 0 h (by omega) (.inl ⟨hV, rfl⟩)
  obtain ⟨i0, hi, hz0, hz1, hz2⟩ := info_parts infoQ
  have HL := Lib.hid hL
  have HV := Lib.hid hV
  have HR := Lib.hid hr
  have hlen2 : L.length ≤ maxLen := by unfold maxLen; omega
  have hlen3 : i0.bytes * L.length ≤ 281474976710656 := by rw [hz2]; omega
  have kc := @Tail.cell_re
  clear hL hV hr
  go_enter Tryz.func129, Tryz.ntmps129
  go_wp2_with (first | (go_at_call 109; refine (cv _ (HL.out.later ((Below.refl _ _).alloc (Nat.le_refl _) _))).mono ?_; rintro e w1 ⟨rfl, hw1⟩; have s1 := hw1.size; simp at s1) | (at_make; refine wpList_make_own _ rfl _ _ 195 rfl w1.heap.size 152 i0 _ 5 Tryz.underlying195 hi hz0 hz1 _ _ _ L.length rfl rfl rfl hlen3 hlen2 (Nat.le_refl _) ?_; intro w2 hown hgrow))
  have bR1 : UBox w1 w.heap.size zero := (⟨by simp [go_sem, zero], by simp [go_sem, zero], by simp [go_sem, zero], by simp [go_sem, zero], by simp [go_sem, zero], fun j => by simp [go_sem], by simp⟩ : UBox (w.alloc (.cells #[.int .i64 0, .int .i64 0, .int .i64 0, .int .i64 0, .int .i64 0] 73)) w.heap.size zero).later hw1
  have hb1 : Below w.heap.size w w1 := by repeat (first | (with_reducible exact Below.refl _ _) | (with_reducible refine Below.setCell ?_ ?_ _) | (with_reducible refine Below.drew ?_) | (with_reducible refine Below.alloc ?_ ?_ _) | (with_reducible refine Below.trans ?_ (Below.mono hw1 ?_)) | (with_reducible exact hw1.size) | omega | (simp <;> omega) | (simp <;> (have s := hw1.size; omega)) | (have s0 := hw1.size; (try simp at s0); (try simp); omega))
  clear hw1 cv
  have bR2 : UBox w2 w.heap.size zero := bR1.grown hgrow (by simp)
  have hb2 : Below w.heap.size w w2 := hb1.grown hgrow (by omega) (by simp)
  have s2 := hgrow.size
  have hg0 : w.heap.size < w1.heap.size := bR1.lt
  clear bR1 hb1 hgrow s1
  generalize w1.heap.size = g at *
  go_loopw [5, 7, 19] (fun f _ q wr => ∃ k : Nat, k ≤ L.length ∧ q = .int .i64 k ∧ f = .slice (some ⟨g, 0, none⟩) k L.length ∧ Hid (wr.ownsRow g 152 5 (.slice (some ⟨g, 0, none⟩) k L.length) k ((L.take k).flatMap qc)) ∧ UBox wr w.heap.size zero ∧ Below w.heap.size w wr ∧ g ≤ wr.heap.size) (fun _ _ q _ => L.length - (intOf q).toNat)
  case atStart => exact ⟨0, by omega, rfl, rfl, Lib.hid hown, bR2, hb2, s2⟩
  case round =>
    obtain ⟨k, hk, rfl, rfl, hown1, hbox, hb, hgs⟩ := hrel
    clear hown bR2 hb2 s2
    have hbw := hb
    have hbs := hb.size
    by_cases hlt : k < L.length
    · have hx : L[k]? = some L[k] := List.getElem?_eq_getElem hlt
      have hvx : V L[k] := HV.out _ (List.getElem_mem hlt)
      have ht : (L.take (k + 1)).flatMap qc = (L.take k).flatMap qc ++ qc L[k] := take_flat qc L k hlt
      obtain ⟨l0, l1, l2, l3, l4⟩ := HL.out.later hbw k _ hx
      have lb : b < wr.heap.size := World.block_lt_of_cell? wr _ l0
      clear hx
      generalize L[k] = x at *
      have HT := Lib.hid ht
      clear ht hvx
      have c1 := fun W : World => quaternionOf_any x W
      go_wp2_with (first | ((with_reducible refine (c1 _).mono ?_); rintro e w3 ⟨rfl, hw3⟩) | (at_builtin; refine wpList_append_fits _ rfl (.tmp 23) (.tmp 26) 195 rfl g 152 i0 5 Tryz.underlying195 hi hz1 g k L.length ((L.take k).flatMap qc) rfl ((owned_later (hown1.out.alloc _) hw3).alloc _) ⟨w3.heap.size, 0, none⟩ 1 1 (qc x) rfl rfl (five_cells rfl (by simp [go_sem]) (by simp [go_sem]) (by simp [go_sem]) (by simp [go_sem]) (by simp [go_sem])) (five_one rfl) (by omega) ?_; intro w4 hown4 hgrow4))
      have hbox3 := (hbox.later ((Below.refl _ _).alloc (Nat.le_refl _) _)).later hw3
      have hbox4 := (hbox3.later ((Below.refl _ _).alloc (Nat.le_refl _) _)).grown hgrow4 (by simp; omega)
      have s3 := hw3.size
      simp at s3
      have hb3 : Below w.heap.size w w3 := by repeat (first | (with_reducible exact Below.refl _ _) | (with_reducible refine Below.setCell ?_ ?_ _) | (with_reducible refine Below.drew ?_) | (with_reducible refine Below.alloc ?_ ?_ _) | (with_reducible refine Below.trans ?_ (Below.mono hw3 ?_)) | (with_reducible refine Below.trans ?_ (Below.mono hb ?_)) | (with_reducible exact hw3.size) | (with_reducible exact hb.size) | omega | (simp <;> omega) | (simp <;> (have s := hw3.size; omega)) | (simp <;> (have s := hb.size; omega)) | (have s0 := hw3.size; (try simp at s0); have s1 := hb.size; (try simp at s1); (try simp); omega))
      have hb4 := (hb3.alloc (by omega) _).grown hgrow4 (by simp; omega) (by intro k hk; simp at hk; omega)
      have s4 := hgrow4.size
      simp at s4
      rw [← HT.out] at hown4
      clear hbox hbox3 hown1 hgrow4 hw3
      go_wp2
      exact ⟨⟨k + 1, by omega, by go_num, rfl, Lib.hid hown4, hbox4, hb4, by omega⟩, by simp [intOf]; omega⟩
    · obtain rfl : k = L.length := by omega
      have hq : LiesQ wr g 0 L := owned_liesQ (by have := hown1.out; rwa [List.take_length] at this)
      have c2 := product_any g 0 L.length L r er wr hq HV.out (by omega) HR.out
      clear hown1 hq
      go_wp2_with ((with_reducible refine c2.mono ?_); rintro e w4 ⟨rfl, hw4⟩; obtain ⟨d0, d1, d2, d3, d4, df, dl⟩ := hbox.later hw4; clear hbox)
      refine bodyPost_ret (v := .tuple #[.agg #[.int .i64 r.a, .int .i64 r.b, .int .i64 r.c, .int .i64 r.d, .int .i64 r.n], .int .i64 er]) ?_ rfl ⟨rfl, ?_⟩
      · simp [results, Tryz.results129, go_sem, d0, d1, d2, d3, d4]
      · repeat (first | (with_reducible exact Below.refl _ _) | (with_reducible refine Below.setCell ?_ ?_ _) | (with_reducible refine Below.drew ?_) | (with_reducible refine Below.alloc ?_ ?_ _) | (with_reducible refine Below.trans ?_ (Below.mono hw4 ?_)) | (with_reducible refine Below.trans ?_ (Below.mono hb ?_)) | (with_reducible exact hw4.size) | (with_reducible exact hb.size) | omega | (simp <;> omega) | (simp <;> (have s := hw4.size; omega)) | (simp <;> (have s := hb.size; omega)) | (have s0 := hw4.size; (try simp at s0); have s1 := hb.size; (try simp at s1); (try simp); omega))

end Go.Proofs.YtpfhjdmgkckjfaaGreatDoor
