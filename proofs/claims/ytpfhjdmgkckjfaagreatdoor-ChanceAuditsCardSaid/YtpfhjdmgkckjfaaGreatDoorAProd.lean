/- Products of lists of quaternions, as the program makes them.
Conditions: the list lies in memory as it is written at each theorem. -/
import Derived.Test.YtpfhjdmgkckjfaaGreatDoorADist
import Derived.Test.YtpfhjdmgkckjfaaGreatDoorARegA
namespace Go.Proofs.YtpfhjdmgkckjfaaGreatDoor
set_option linter.unusedVariables false
set_option linter.unusedSimpArgs false
open Go.RowKit
open Um

/-- A list of quaternions lies at a place of memory, five cells each. -/
def LiesQ (w : World) (b off : Nat) (L : List Q) : Prop := ∀ (i : Nat) (x : Q), L[i]? = some x →
  w.cell? ⟨b, off + i * 5, none⟩ = some (.int .i64 x.b) ∧ w.cell? ⟨b, off + i * 5 + 1, none⟩ = some (.int .i64 x.c) ∧ w.cell? ⟨b, off + i * 5 + 2, none⟩ = some (.int .i64 x.d) ∧ w.cell? ⟨b, off + i * 5 + 3, none⟩ = some (.int .i64 x.a) ∧ w.cell? ⟨b, off + i * 5 + 4, none⟩ = some (.int .i64 x.n)

theorem LiesQ.later {w w1 : World} {b off : Nat} {L : List Q} (h : LiesQ w b off L) (hb : Below w.heap.size w w1) : LiesQ w1 b off L := fun i x hx => by
  have f := h i x hx
  have g : ∀ a : Addr, ∀ v : Value, w.cell? a = some v → w1.cell? a = some v := fun a v hv => by rw [hb.cell (World.block_lt_of_cell? w a hv)]; exact hv
  exact ⟨g _ _ f.1, g _ _ f.2.1, g _ _ f.2.2.1, g _ _ f.2.2.2.1, g _ _ f.2.2.2.2⟩

/-- A unit's box: five cells that may be written. -/
structure UBox (w : World) (b : Nat) (x : Q) : Prop where
  ca : w.cell? ⟨b, 0, none⟩ = some (.int .i64 x.a)
  cb : w.cell? ⟨b, 1, none⟩ = some (.int .i64 x.b)
  cc : w.cell? ⟨b, 2, none⟩ = some (.int .i64 x.c)
  cd : w.cell? ⟨b, 3, none⟩ = some (.int .i64 x.d)
  cn : w.cell? ⟨b, 4, none⟩ = some (.int .i64 x.n)
  free : ∀ j, w.frozen? ⟨b, j, none⟩ = false
  lt : b < w.heap.size

theorem UBox.later {w w1 : World} {b : Nat} {x : Q} (h : UBox w b x) (hb : Below w.heap.size w w1) : UBox w1 b x :=
  ⟨(hb.cell h.lt).trans h.ca, (hb.cell h.lt).trans h.cb, (hb.cell h.lt).trans h.cc, (hb.cell h.lt).trans h.cd, (hb.cell h.lt).trans h.cn, fun j => (hb.frozen h.lt).trans (h.free j), Nat.lt_of_lt_of_le h.lt hb.size⟩

/-- where a product stands after some factors -/
theorem prod_step {L : List Q} {k : Nat} {p : Q} (hk : k < L.length) (h : prodFrom one (L.take k) = (p, 0)) (hl : (low (mul p L[k])).n ≤ 1048576) : prodFrom one (L.take (k + 1)) = (low (mul p L[k]), 0) := by
  rw [List.take_succ_eq_append_getElem hk, prodFrom_append _ _ _ _ h]
  simp only [prodFrom]
  rw [if_neg (by omega)]
theorem prod_large {L : List Q} {k : Nat} {p : Q} (hk : k < L.length) (h : prodFrom one (L.take k) = (p, 0)) (hl : 1048576 < (low (mul p L[k])).n) : prodFrom one L = (zero, 3) := by
  have e : prodFrom one (L.take (k + 1)) = (zero, 3) := by
    rw [List.take_succ_eq_append_getElem hk, prodFrom_append _ _ _ _ h]
    simp only [prodFrom]
    rw [if_pos hl]
  have := prodFrom_err one (L.take (k + 1)) (L.drop (k + 1)) 3 zero e (by decide)
  rwa [List.take_append_drop] at this

set_option maxRecDepth 100000 in
set_option maxHeartbeats 1600000 in
theorem product_any (b off cap : Nat) (L : List Q) (r : Q) (er : Int) (w : World) (hL : LiesQ w b off L) (hV : ∀ x ∈ L, V x) (hlen : L.length ≤ 1152921504606846976) (hr : prodFrom one L = (r, er)) :
    Calls Tryz.prog 151 #[.slice (some ⟨b, off, none⟩) L.length cap] w fun e w' => e = .returned (.tuple #[.agg #[.int .i64 r.a, .int .i64 r.b, .int .i64 r.c, .int .i64 r.d, .int .i64 r.n], .int .i64 er]) ∧ Below w.heap.size w w' := by
  have o1 := fun W : World => one_any W
  have o2 := fun W : World => unit_ok one W ((V.in V.one).le (by omega)) (by decide)
  rw [low_one] at o2
  have HL := Lib.hid hL
  have HV := Lib.hid hV
  have HR := Lib.hid hr
  clear hL hV hr
  have kc := @Tail.cell_re
  go_enter Tryz.func151, Tryz.ntmps151
  go_wp2_with (first | ((with_reducible refine (o1 _).mono ?_); rintro e w1 ⟨rfl, hw1⟩; have hc1 := Tail.cells hw1; have zw10 := Nat.lt_of_lt_of_le (n := w.heap.size) (by simp <;> omega) hw1.size) | ((with_reducible refine (o2 _).mono ?_); rintro e w2 ⟨rfl, hw2⟩; have hc2 := Tail.cells hw2; have z2 := Nat.lt_of_lt_of_le zw10 hw2.size))
  have hw12 : Below w.heap.size w w2 := by repeat (first | (with_reducible exact Below.refl _ _) | (with_reducible refine Below.setCell ?_ ?_ _) | (with_reducible refine Below.drew ?_) | (with_reducible refine Below.alloc ?_ ?_ _) | (with_reducible refine Below.trans ?_ (Below.mono hw2 ?_)) | (with_reducible refine Below.trans ?_ (Below.mono hw1 ?_)) | (with_reducible exact hw2.size) | (with_reducible exact hw1.size) | omega | (simp <;> omega) | (simp <;> (have s := hw2.size; omega)) | (simp <;> (have s := hw1.size; omega)) | (have s0 := hw2.size; (try simp at s0); have s1 := hw1.size; (try simp at s1); (try simp); omega))
  have bR : UBox w2 w.heap.size zero := ⟨by simp [hc2, hc1, zw10, zero], by simp [hc2, hc1, zw10, zero], by simp [hc2, hc1, zw10, zero], by simp [hc2, hc1, zw10, zero], by simp [hc2, hc1, zw10, zero], fun j => by simp [hc2, hc1, zw10], z2⟩
  have bP : UBox (w2.alloc (.cells #[.int .i64 one.a, .int .i64 one.b, .int .i64 one.c, .int .i64 one.d, .int .i64 one.n] 73)) w2.heap.size one := ⟨by simp [go_sem], by simp [go_sem], by simp [go_sem], by simp [go_sem], by simp [go_sem], fun j => by simp [go_sem], by simp⟩
  have bR' : UBox (w2.alloc (.cells #[.int .i64 one.a, .int .i64 one.b, .int .i64 one.c, .int .i64 one.d, .int .i64 one.n] 73)) w.heap.size zero := bR.later ((Below.refl _ _).alloc (Nat.le_refl _) _)
  have hwa : Below w.heap.size w (w2.alloc (.cells #[.int .i64 one.a, .int .i64 one.b, .int .i64 one.c, .int .i64 one.d, .int .i64 one.n] 73)) := hw12.alloc hw12.size _
  have hPne : w.heap.size < w2.heap.size := z2
  clear bR hc1 hc2 hw1 hw2 o1 o2 hw12 zw10
  generalize hbP : w2.heap.size = bp at *
  clear hbP
  go_loopw [5, 15] (fun e q wr => ∃ (k : Nat) (p : Q), k ≤ L.length ∧ q = .int .i64 k ∧ e = .int .i64 0 ∧ V p ∧ Hid (prodFrom one (L.take k) = (p, 0)) ∧ UBox wr bp p ∧ UBox wr w.heap.size zero ∧ Below w.heap.size w wr) (fun _ q _ => L.length - (intOf q).toNat)
  case atStart => exact ⟨0, one, by omega, rfl, rfl, V.one, Lib.hid rfl, bP, bR', hwa⟩
  case round =>
    obtain ⟨k, p, hk, rfl, rfl, hp, hpr, bp1, br1, hb⟩ := hrel
    have hbw := hb
    have hbs := hb.size
    by_cases hlt : k < L.length
    · have hx : L[k]? = some L[k] := List.getElem?_eq_getElem hlt
      have hvx : V L[k] := HV.out _ (List.getElem_mem hlt)
      have hgood := fun h => prod_step hlt hpr.out h
      have hlarge := fun h => prod_large hlt hpr.out h
      obtain ⟨l0, l1, l2, l3, l4⟩ := HL.out.later hbw k _ hx
      clear hx
      generalize L[k] = x at *
      have HG := Lib.hid hgood
      have HLG := Lib.hid hlarge
      clear hgood hlarge hpr
      have c1 := fun W : World => quaternionOf_any p W
      have c2 := fun W : World => times_any p x W (V.small2 hp hvx)
      have hi := V.mul_in hp hvx
      have hu := mul_len p x hp.u hvx.u
      have bpA : UBox (wr.alloc (.cells #[.int .i64 x.b, .int .i64 x.c, .int .i64 x.d, .int .i64 x.a, .int .i64 x.n] 152)) bp p := bp1.later ((Below.refl _ _).alloc (Nat.le_refl _) _)
      have brA : UBox (wr.alloc (.cells #[.int .i64 x.b, .int .i64 x.c, .int .i64 x.d, .int .i64 x.a, .int .i64 x.n] 152)) w.heap.size zero := br1.later ((Below.refl _ _).alloc (Nat.le_refl _) _)
      have HA := Lib.hid bpA
      have HRA := Lib.hid brA
      obtain ⟨a0, a1, a2, a3, a4, af, al⟩ := bpA
      have al' : bp < wr.heap.size := bp1.lt
      have kc1 : ∀ (W : World) (o : Obj) (d : Nat) (os : Array Obj) (a : Addr), a.block ≤ W.heap.size → (Sort.grow (redrawn (W.alloc o) d) os).cell? a = (W.alloc o).cell? a := fun W o d os a h =>
        Tail.cell_re (W.alloc o) d os a (by have : (W.alloc o).heap.size = W.heap.size + 1 := by simp
                                            omega)
      obtain ⟨p0, p1, p2, p3, p4, pf, pl⟩ := bp1
      clear br1
      by_cases hl : (low (mul p x)).n ≤ 1048576
      · have c3 := fun W : World => unit_ok (mul p x) W hi hl
        have hvl : V (low (mul p x)) := V.of_low hu hl
        have hnext := HG.out hl
        generalize low (mul p x) = y at *
        have HN := Lib.hid hnext
        clear hnext hi hu hl hvx
        go_wp2
        refine Late.region_late2 6 (.agg #[.int .i64 y.a, .int .i64 y.b, .int .i64 y.c, .int .i64 y.d, .int .i64 y.n]) (.int .i64 0) (by kernel_rfl) (by kernel_rfl) (fun c a d v w h => by cases d <;> exact h) _ _ rfl rfl ?_
        simp only [List.take_succ_cons, List.take_zero, List.drop_succ_cons, List.drop_zero]
        repeat (first | go_big_quiet_step (first | (with_reducible exact Calls.regrown_of (c1 _)) | (with_reducible exact Calls.regrown_of (c2 _)) | (with_reducible exact Calls.regrown_of (c3 _))) | quiet_step (fail))
        refine wpQuiet_nil ?_
        intro w3 hw3
        refine ⟨.inl ⟨rfl, fun W => by simp [go_sem]⟩, .inl ⟨rfl, fun W => by simp [go_sem]⟩, ?_⟩
        obtain ⟨b0, b1, b2, b3, b4, bf, bl⟩ := HA.out.later hw3
        obtain ⟨d0, d1, d2, d3, d4, df, dl⟩ := HRA.out.later hw3
        go_wp2
        refine ⟨⟨k + 1, y, by omega, by go_num, rfl, hvl, HN, ?_, ?_, by repeat (first | (with_reducible exact Below.refl _ _) | (with_reducible refine Below.setCell ?_ ?_ _) | (with_reducible refine Below.drew ?_) | (with_reducible refine Below.alloc ?_ ?_ _) | (with_reducible refine Below.trans ?_ (Below.mono hw3 ?_)) | (with_reducible refine Below.trans ?_ (Below.mono hb ?_)) | (with_reducible exact hw3.size) | (with_reducible exact hb.size) | omega | (simp <;> omega) | (simp <;> (have s := hw3.size; omega)) | (simp <;> (have s := hb.size; omega)) | (have s0 := hw3.size; (try simp at s0); have s1 := hb.size; (try simp at s1); (try simp); omega))⟩, by simp [intOf]; omega⟩
        · exact ⟨by simp [go_sem, b0, b1, b2, b3, b4], by simp [go_sem, b0, b1, b2, b3, b4], by simp [go_sem, b0, b1, b2, b3, b4], by simp [go_sem, b0, b1, b2, b3, b4], by simp [go_sem, b0, b1, b2, b3, b4], fun j => by simp [bf], by simp [World.setCell]; exact bl⟩
        · have hne : ¬ w.heap.size = bp := by omega
          have hne' : ¬ bp = w.heap.size := by omega
          exact ⟨by simp [go_sem, d0, hne, hne'], by simp [go_sem, d1, hne, hne'], by simp [go_sem, d2, hne, hne'], by simp [go_sem, d3, hne, hne'], by simp [go_sem, d4, hne, hne'], fun j => by simp [df], by simp [World.setCell]; exact dl⟩
      · have hl' : 1048576 < (low (mul p x)).n := by omega
        have c3 := fun W : World => unit_large (mul p x) W hi hl'
        have hfin := HR.out.symm.trans (HLG.out hl')
        simp only [Prod.mk.injEq] at hfin
        obtain ⟨rfl, rfl⟩ := hfin
        clear hi hu hl hl' hvx
        go_wp2
        refine Late.region_late2 6 (.agg #[.int .i64 zero.a, .int .i64 zero.b, .int .i64 zero.c, .int .i64 zero.d, .int .i64 zero.n]) (.int .i64 3) (by kernel_rfl) (by kernel_rfl) (fun c a d v w h => by cases d <;> exact h) _ _ rfl rfl ?_
        simp only [List.take_succ_cons, List.take_zero, List.drop_succ_cons, List.drop_zero]
        repeat (first | go_big_quiet_step (first | (with_reducible exact Calls.regrown_of (c1 _)) | (with_reducible exact Calls.regrown_of (c2 _)) | (with_reducible exact Calls.regrown_of (c3 _))) | quiet_step (fail))
        refine wpQuiet_nil ?_
        intro w3 hw3
        refine ⟨.inl ⟨rfl, fun W => by simp [go_sem]⟩, .inl ⟨rfl, fun W => by simp [go_sem]⟩, ?_⟩
        obtain ⟨b0, b1, b2, b3, b4, bf, bl⟩ := HA.out.later hw3
        obtain ⟨d0, d1, d2, d3, d4, df, dl⟩ := HRA.out.later hw3
        have hne : ¬ w.heap.size = bp := by omega
        have hne' : ¬ bp = w.heap.size := by omega
        go_wp2
        refine bodyPost_ret (v := .tuple #[.agg #[.int .i64 zero.a, .int .i64 zero.b, .int .i64 zero.c, .int .i64 zero.d, .int .i64 zero.n], .int .i64 3]) ?_ rfl ⟨rfl, ?_⟩
        · simp [results, Tryz.results151, go_sem, d0, d1, d2, d3, d4, zero, hne, hne']
        · repeat (first | (with_reducible exact Below.refl _ _) | (with_reducible refine Below.setCell ?_ ?_ _) | (with_reducible refine Below.drew ?_) | (with_reducible refine Below.alloc ?_ ?_ _) | (with_reducible refine Below.trans ?_ (Below.mono hw3 ?_)) | (with_reducible refine Below.trans ?_ (Below.mono hb ?_)) | (with_reducible exact hw3.size) | (with_reducible exact hb.size) | omega | (simp <;> omega) | (simp <;> (have s := hw3.size; omega)) | (simp <;> (have s := hb.size; omega)) | (have s0 := hw3.size; (try simp at s0); have s1 := hb.size; (try simp at s1); (try simp); omega))
    · obtain rfl : k = L.length := by omega
      have hfin := HR.out.symm.trans (show prodFrom one L = (p, 0) by have := hpr.out; rwa [List.take_length] at this)
      simp only [Prod.mk.injEq] at hfin
      obtain ⟨rfl, rfl⟩ := hfin
      obtain ⟨b0, b1, b2, b3, b4, bf, bl⟩ := bp1
      obtain ⟨d0, d1, d2, d3, d4, df, dl⟩ := br1
      have hne : ¬ w.heap.size = bp := by omega
      have hne' : ¬ bp = w.heap.size := by omega
      clear hpr
      go_wp2
      refine bodyPost_ret (v := .tuple #[.agg #[.int .i64 r.a, .int .i64 r.b, .int .i64 r.c, .int .i64 r.d, .int .i64 r.n], .int .i64 0]) ?_ rfl ⟨rfl, ?_⟩
      · simp [results, Tryz.results151, go_sem, d0, d1, d2, d3, d4]
      · repeat (first | (with_reducible exact Below.refl _ _) | (with_reducible refine Below.setCell ?_ ?_ _) | (with_reducible refine Below.drew ?_) | (with_reducible refine Below.alloc ?_ ?_ _) | (with_reducible refine Below.trans ?_ (Below.mono hb ?_)) | (with_reducible exact hb.size) | omega | (simp <;> omega) | (simp <;> (have s := hb.size; omega)) | (have s0 := hb.size; (try simp at s0); (try simp); omega))
end Go.Proofs.YtpfhjdmgkckjfaaGreatDoor
