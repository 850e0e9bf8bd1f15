/- Powers, as the program makes them.
Conditions: those written at each theorem. -/
import Derived.Test.YtecoemdpfpdeoaaProduct
import Derived.Scope
import Derived.ScopeJumps
import Derived.WalkMore
namespace Go.Proofs.Ytecoemdpfpdeoaa
set_option linter.unusedVariables false
set_option linter.unusedSimpArgs false
open Go.RowKit
open Um

theorem isW_yes (n : Int) (w : World) (h1 : -1000 ≤ n) (h2 : n ≤ 1000) : Calls Try.prog 69 #[.int .i64 n, .int .i64 1000] w fun e w' => e = .returned (.bool true) ∧ w = w' := by
  have := isWithin_any n 1000 w (by omega) (by omega)
  rwa [inB_yes h1 h2] at this
theorem isW_no (n : Int) (w : World) (h : ¬ (-1000 ≤ n ∧ n ≤ 1000)) : Calls Try.prog 69 #[.int .i64 n, .int .i64 1000] w fun e w' => e = .returned (.bool false) ∧ w = w' := by
  have h3 : inB n (-1000) 1000 = false := by
    cases hb : inB n (-1000) 1000
    · rfl
    · exact absurd (inB_iff.1 hb) h
  have := isWithin_any n 1000 w (by omega) (by omega)
  rwa [h3] at this

theorem wp_scope_jumps2 {P : Program} {a : Act} {w : World} {Q : Exit → Act → World → Prop} {c rest : Code} (l : Nat) (J : Act → World → Prop) (μ : Act → World → Nat) (hf : findLabel c l = some (Code.skip.seq rest))
    (pass : ∀ a w, J a w → rest.wp P (Exit.jump l (fun a' w' => J a' w' ∧ μ a' w' < μ a w) Q) a w)
    (first : (∀ a w, J a w → rest.wp P (Exit.jump l J Q) a w) → c.wp P (Exit.jump l J Q) a w) : (Code.scope c).wp P Q a w :=
  wp_scope_jumps l J μ hf (first (fun a w h => Code.wp_mono (fun e a w hq => by
    cases e with
    | goto l' => exact ⟨hq.1, hq.2.1⟩
    | _ => exact hq) (pass a w h))) (fun a w h => wp_seq (wp_skip (pass a w h)))

/-- a quaternion's box, to be read -/
structure QRead (w : World) (b : Nat) (x : Q) : Prop where
  cb : w.cell? ⟨b, 0, none⟩ = some (.int .i64 x.b)
  cc : w.cell? ⟨b, 1, none⟩ = some (.int .i64 x.c)
  cd : w.cell? ⟨b, 2, none⟩ = some (.int .i64 x.d)
  ca : w.cell? ⟨b, 3, none⟩ = some (.int .i64 x.a)
  cn : w.cell? ⟨b, 4, none⟩ = some (.int .i64 x.n)
  lt : b < w.heap.size
theorem QRead.later {w w1 : World} {b : Nat} {x : Q} (h : QRead w b x) (hb : Below w.heap.size w w1) : QRead w1 b x :=
  ⟨(hb.cell h.lt).trans h.cb, (hb.cell h.lt).trans h.cc, (hb.cell h.lt).trans h.cd, (hb.cell h.lt).trans h.ca, (hb.cell h.lt).trans h.cn, Nat.lt_of_lt_of_le h.lt hb.size⟩

theorem setCell_grown (w : World) (p : Addr) (v : Value) : w.grownBy (w.setCell p v) (some p.block) :=
  ⟨rfl, rfl, rfl, by simp [World.setCell], fun k _ hk => heap_setCell_other w p k v (fun e => hk (by simp [e]))⟩
theorem UBox.other {w : World} {b : Nat} {x : Q} (h : UBox w b x) {p : Addr} {v : Value} (hne : ¬ b = p.block) : UBox (w.setCell p v) b x :=
  h.grown (setCell_grown w p v) (by simpa using hne)
theorem QRead.other {w : World} {b : Nat} {x : Q} (h : QRead w b x) {p : Addr} {v : Value} (hne : ¬ b = p.block) : QRead (w.setCell p v) b x := by
  have hg := setCell_grown w p v
  have hn : some b ≠ some p.block := by simpa using hne
  exact ⟨hg.cell h.cb hn, hg.cell h.cc hn, hg.cell h.cd hn, hg.cell h.ca hn, hg.cell h.cn hn, Nat.lt_of_lt_of_le h.lt hg.size⟩

set_option maxHeartbeats 800000 in
theorem power_bad (x : Q) (n : Int) (w : World) (h : ¬ V x) : Calls Try.prog 30 #[.agg #[.int .i64 x.a, .int .i64 x.b, .int .i64 x.c, .int .i64 x.d, .int .i64 x.n], .int .i64 n] w fun e w' => e = .returned (.tuple #[.agg #[.int .i64 zero.a, .int .i64 zero.b, .int .i64 zero.c, .int .i64 zero.d, .int .i64 zero.n], .int .i64 1]) ∧ Below w.heap.size w w' := by
  have c1 := fun W : World => validate_bad x W h
  clear h
  go_enter Try.func30, Try.ntmps30
  go_wp2
  go_step3
  go_wp2_with ((with_reducible refine (c1 _).mono ?_); rintro e w1 ⟨rfl, hw1⟩; have hc := Tail.cells hw1; have zw10 := Nat.lt_of_lt_of_le (n := w.heap.size) (by simp <;> omega) hw1.size; have zw11 := Nat.lt_of_lt_of_le (n := w.heap.size + 1) (by simp <;> omega) hw1.size)
  rw [Exit.noGoto_ret]
  refine bodyPost_ret (v := .tuple #[.agg #[.int .i64 zero.a, .int .i64 zero.b, .int .i64 zero.c, .int .i64 zero.d, .int .i64 zero.n], .int .i64 1]) ?_ rfl ⟨rfl, ?_⟩
  · simp [results, Try.results30, go_sem, hc, zw10, zw11, zero]
  · repeat (first | (with_reducible exact Below.refl _ _) | (with_reducible refine Below.setCell ?_ ?_ _) | (with_reducible refine Below.drew ?_) | (with_reducible refine Below.alloc ?_ ?_ _) | (with_reducible refine Below.trans ?_ (Below.mono hw1 ?_)) | (with_reducible exact hw1.size) | omega | (simp <;> omega) | (simp <;> (have s := hw1.size; omega)) | (have s0 := hw1.size; (try simp at s0); (try simp); omega))

set_option maxHeartbeats 800000 in
theorem power_far (x : Q) (n : Int) (w : World) (h : V x) (hn : ¬ (-1000 ≤ n ∧ n ≤ 1000)) : Calls Try.prog 30 #[.agg #[.int .i64 x.a, .int .i64 x.b, .int .i64 x.c, .int .i64 x.d, .int .i64 x.n], .int .i64 n] w fun e w' => e = .returned (.tuple #[.agg #[.int .i64 zero.a, .int .i64 zero.b, .int .i64 zero.c, .int .i64 zero.d, .int .i64 zero.n], .int .i64 1]) ∧ Below w.heap.size w w' := by
  have c1 := fun W : World => validate_ok x W h
  have c4 := fun W : World => isW_no n W hn
  clear h hn
  go_enter Try.func30, Try.ntmps30
  go_wp2
  go_step3
  go_wp2_with (first | ((with_reducible refine (c1 _).mono ?_); rintro e w1 ⟨rfl, hw1⟩; have hc := Tail.cells hw1; have zw10 := Nat.lt_of_lt_of_le (n := w.heap.size) (by simp <;> omega) hw1.size; have zw11 := Nat.lt_of_lt_of_le (n := w.heap.size + 1) (by simp <;> omega) hw1.size) | ((with_reducible refine (c4 _).mono ?_); rintro e w2 ⟨rfl, rfl⟩))
  rw [Exit.noGoto_ret]
  refine bodyPost_ret (v := .tuple #[.agg #[.int .i64 zero.a, .int .i64 zero.b, .int .i64 zero.c, .int .i64 zero.d, .int .i64 zero.n], .int .i64 1]) ?_ rfl ⟨rfl, ?_⟩
  · simp [results, Try.results30, go_sem, hc, zw10, zw11, zero]
  · repeat (first | (with_reducible exact Below.refl _ _) | (with_reducible refine Below.setCell ?_ ?_ _) | (with_reducible refine Below.drew ?_) | (with_reducible refine Below.alloc ?_ ?_ _) | (with_reducible refine Below.trans ?_ (Below.mono hw1 ?_)) | (with_reducible exact hw1.size) | omega | (simp <;> omega) | (simp <;> (have s := hw1.size; omega)) | (have s0 := hw1.size; (try simp at s0); (try simp); omega))

def powJ (w : World) (y : Q) (m : Nat) (r : Q) (er : Int) (v0 v1 : Value) (a' : Act) (wr : World) : Prop :=
  ∃ (left : Nat) (p : Q) (e : Int) (bf bp : Nat) (u11 u12 u13 u14 u15 u16 u17 u18 u19 u20 u21 u22 u23 u24 u25 u26 u27 u28 u29 u30 u31 u32 u33 u34 u35 u36 u37 u38 u39 u40 u41 u42 u43 u44 u45 u46 u47 u48 u49 u50 u51 u52 : Value), a' = { tmps := #[v0, v1, .pointer (some ⟨w.heap.size, 0, none⟩), undef, .pointer (some ⟨w.heap.size + 1, 0, none⟩), .int .i64 0, .int .i64 0, .pointer (some ⟨bf, 0, none⟩), .int .i64 left, .pointer (some ⟨bp, 0, none⟩), .int .i64 e, u11, u12, u13, u14, u15, u16, u17, u18, u19, u20, u21, u22, u23, u24, u25, u26, u27, u28, u29, u30, u31, u32, u33, u34, u35, u36, u37, u38, u39, u40, u41, u42, u43, u44, u45, u46, u47, u48, u49, u50, u51, u52], defers := [] } ∧
    left ≤ m ∧ ((e = 0 ∧ V p ∧ prodFrom one ((List.replicate m y).take (m - left)) = (p, 0)) ∨ (e = 3 ∧ p = zero ∧ r = zero ∧ er = 3)) ∧ QRead wr bf y ∧ UBox wr bp p ∧ UBox wr (w.heap.size + 1) zero ∧ w.heap.size + 1 < bf ∧ bf < bp ∧ Below w.heap.size w wr

set_option maxRecDepth 100000 in
set_option maxHeartbeats 3200000 in
theorem power_neg (x r : Q) (n er : Int) (w : World) (h : V x) (h1 : -1000 ≤ n) (h2 : n < 0) (hr : prodFrom one (List.replicate n.natAbs (bar x)) = (r, er)) : Calls Try.prog 30 #[.agg #[.int .i64 x.a, .int .i64 x.b, .int .i64 x.c, .int .i64 x.d, .int .i64 x.n], .int .i64 n] w fun e w' => e = .returned (.tuple #[.agg #[.int .i64 r.a, .int .i64 r.b, .int .i64 r.c, .int .i64 r.d, .int .i64 r.n], .int .i64 er]) ∧ Below w.heap.size w w' := by
  have c1 := fun W : World => validate_ok x W h
  have c2 := fun W : World => quaternionOf_any x W
  have ix := V.in h
  have c3 := fun W : World => inverse_any x W (by have := ix.b; omega) (by have := ix.c; omega) (by have := ix.d; omega)
  have c4 := fun W : World => isW_yes n W h1 (by omega)
  have o1 := fun W : World => one_any W
  have o2 := fun W : World => unit_ok one W ((V.in V.one).le (by omega)) (by decide)
  rw [low_one] at o2
  have hV := h.bar
  clear h ix
  generalize bar x = y at *
  have HR := Lib.hid hr
  clear hr
  go_enter Try.func30, Try.ntmps30
  go_wp2
  refine wp_scope_jumps2 0 (powJ w y n.natAbs r er (.agg #[.int .i64 x.a, .int .i64 x.b, .int .i64 x.c, .int .i64 x.d, .int .i64 x.n]) (.int .i64 n)) (fun a' _ => (intOf (a'.tmps.getD 8 undef)).toNat) rfl ?pass ?first
  case first =>
    intro hp
    have HP := Lib.hid hp
    clear hp
    go_wp2_with (first | ((with_reducible refine (c1 _).mono ?_); rintro e w1 ⟨rfl, hw1⟩; have hc1 := Tail.cells hw1; have zw10 := Nat.lt_of_lt_of_le (n := w.heap.size) (by simp <;> omega) hw1.size; have zw11 := Nat.lt_of_lt_of_le (n := w.heap.size + 1) (by simp <;> omega) hw1.size) | ((with_reducible refine (c4 _).mono ?_); rintro e w2 ⟨rfl, rfl⟩) | ((with_reducible refine (c2 _).mono ?_); rintro e w2 ⟨rfl, hw2⟩; have hc2 := Tail.cells hw2; have z20 := Nat.lt_of_lt_of_le zw10 hw2.size; have z21 := Nat.lt_of_lt_of_le zw11 hw2.size) | ((with_reducible refine (c3 _).mono ?_); rintro e w3 ⟨rfl, hw3⟩; have hc3 := Tail.cells hw3; have s3 := hw3.size) | ((with_reducible refine (o1 _).mono ?_); rintro e w4 ⟨rfl, hw4⟩; have hc4 := Tail.cells hw4; have s4 := hw4.size) | ((with_reducible refine (o2 _).mono ?_); rintro e w5 ⟨rfl, hw5⟩; have hc5 := Tail.cells hw5; have s5 := hw5.size))
    go_step3
    have e1 : (-n : Int) = (n.natAbs : Int) := by omega
    rw [e1]
    have bR0 : UBox ((w.alloc (.cells #[.int .i64 x.a, .int .i64 x.b, .int .i64 x.c, .int .i64 x.d, .int .i64 x.n] 23)).alloc (.cells #[.int .i64 0, .int .i64 0, .int .i64 0, .int .i64 0, .int .i64 0] 23)) (w.heap.size + 1) zero := ⟨by simp [go_sem, zero], by simp [go_sem, zero], by simp [go_sem, zero], by simp [go_sem, zero], by simp [go_sem, zero], fun j => by simp [go_sem], by simp⟩
    have bR3 := (((bR0.later hw1).later hw2).later ((Below.refl _ _).alloc (Nat.le_refl _) _)).later hw3
    have q3 : QRead w3 w2.heap.size x := (⟨by simp [go_sem], by simp [go_sem], by simp [go_sem], by simp [go_sem], by simp [go_sem], by simp⟩ : QRead (w2.alloc (.cells #[.int .i64 x.b, .int .i64 x.c, .int .i64 x.d, .int .i64 x.a, .int .i64 x.n] 68)) w2.heap.size x).later hw3
    obtain ⟨f0, f1, f2, f3, f4, fl⟩ := q3
    have s1 := hw1.size
    simp at s1
    have s2 := hw2.size
    have ne2 : ¬ w.heap.size + 1 = w2.heap.size := by omega
    have bR4 := ((((((bR3.other (p := ⟨w2.heap.size, 0, none⟩) (v := .int .i64 y.b) ne2).other (p := ⟨w2.heap.size, 1, none⟩) (v := .int .i64 y.c) ne2).other (p := ⟨w2.heap.size, 2, none⟩) (v := .int .i64 y.d) ne2).other (p := ⟨w2.heap.size, 3, none⟩) (v := .int .i64 y.a) ne2).other (p := ⟨w2.heap.size, 4, none⟩) (v := .int .i64 y.n) ne2).later hw4).later hw5
    have q4 := ((⟨by simp [go_sem, f0], by simp [go_sem, f1], by simp [go_sem, f2], by simp [go_sem, f3], by simp [go_sem, f4], by simp [World.setCell]; exact fl⟩ : QRead (((((w3.setCell ⟨w2.heap.size, 0, none⟩ (.int .i64 y.b)).setCell ⟨w2.heap.size, 1, none⟩ (.int .i64 y.c)).setCell ⟨w2.heap.size, 2, none⟩ (.int .i64 y.d)).setCell ⟨w2.heap.size, 3, none⟩ (.int .i64 y.a)).setCell ⟨w2.heap.size, 4, none⟩ (.int .i64 y.n)) w2.heap.size y).later hw4).later hw5
    have hB : Below w.heap.size w w5 := by repeat (first | (with_reducible exact Below.refl _ _) | (with_reducible refine Below.setCell ?_ ?_ _) | (with_reducible refine Below.drew ?_) | (with_reducible refine Below.alloc ?_ ?_ _) | (with_reducible refine Below.trans ?_ (Below.mono hw5 ?_)) | (with_reducible refine Below.trans ?_ (Below.mono hw4 ?_)) | (with_reducible refine Below.trans ?_ (Below.mono hw3 ?_)) | (with_reducible refine Below.trans ?_ (Below.mono hw2 ?_)) | (with_reducible refine Below.trans ?_ (Below.mono hw1 ?_)) | (with_reducible exact hw5.size) | (with_reducible exact hw4.size) | (with_reducible exact hw3.size) | (with_reducible exact hw2.size) | (with_reducible exact hw1.size) | omega | (simp <;> omega) | (simp <;> (have s := hw5.size; omega)) | (simp <;> (have s := hw4.size; omega)) | (simp <;> (have s := hw3.size; omega)) | (simp <;> (have s := hw2.size; omega)) | (simp <;> (have s := hw1.size; omega)) | (have s0 := hw5.size; (try simp at s0); have s1 := hw4.size; (try simp at s1); have s2 := hw3.size; (try simp at s2); have s3 := hw2.size; (try simp at s3); have s4 := hw1.size; (try simp at s4); (try simp); omega))
    have hbl := q4.lt
    rename_i K hK
    refine hK _ _ (HP.out _ _ ?_)
    refine ⟨n.natAbs, one, 0, w2.heap.size, w5.heap.size, _, _, _, _, _, _, _, _, _, _, _, _, _, _, _, _, _, _, _, _, _, _, _, _, _, _, _, _, _, _, _, _, _, _, _, _, _, _, _, _, _, _, rfl, Nat.le_refl _, .inl ⟨rfl, V.one, by simp [prodFrom]⟩, q4.later ((Below.refl _ _).alloc (Nat.le_refl _) _), ?_, bR4.later ((Below.refl _ _).alloc (Nat.le_refl _) _), by omega, hbl, hB.alloc hB.size _⟩
    exact ⟨by simp [go_sem], by simp [go_sem], by simp [go_sem], by simp [go_sem], by simp [go_sem], fun j => by simp [go_sem], by simp⟩
  case pass =>
    clear c1 c2 c3 c4 o1 o2
    rintro a' wr ⟨left, p, e, bf, bp, u11, u12, u13, u14, u15, u16, u17, u18, u19, u20, u21, u22, u23, u24, u25, u26, u27, u28, u29, u30, u31, u32, u33, u34, u35, u36, u37, u38, u39, u40, u41, u42, u43, u44, u45, u46, u47, u48, u49, u50, u51, u52, rfl, hle, hc, hq, hbp, hbr, hlt1, hlt2, hb⟩
    have hbw := hb
    have hbs := hb.size
    rcases hc with ⟨rfl, hp, hpr⟩ | ⟨rfl, rfl, rfl, rfl⟩
    · by_cases hl0 : left = 0
      · subst hl0
        have hfin := HR.out.symm.trans (show prodFrom one (List.replicate n.natAbs y) = (p, 0) by rwa [Nat.sub_zero, List.take_of_length_le (by simp)] at hpr)
        simp only [Prod.mk.injEq] at hfin
        obtain ⟨rfl, rfl⟩ := hfin
        clear hpr hq
        obtain ⟨b0, b1, b2, b3, b4, bfz, bl⟩ := hbp
        obtain ⟨d0, d1, d2, d3, d4, df, dl⟩ := hbr
        go_wp2
        simp only [Exit.jump]
        refine bodyPost_ret (v := .tuple #[.agg #[.int .i64 r.a, .int .i64 r.b, .int .i64 r.c, .int .i64 r.d, .int .i64 r.n], .int .i64 0]) ?_ rfl ⟨rfl, ?_⟩
        · simp [results, Try.results30, go_sem, d0, d1, d2, d3, d4]
        · repeat (first | (with_reducible exact Below.refl _ _) | (with_reducible refine Below.setCell ?_ ?_ _) | (with_reducible refine Below.drew ?_) | (with_reducible refine Below.alloc ?_ ?_ _) | (with_reducible refine Below.trans ?_ (Below.mono hb ?_)) | (with_reducible exact hb.size) | omega | (simp <;> omega) | (simp <;> (have s := hb.size; omega)) | (have s0 := hb.size; (try simp at s0); (try simp); omega))
      · have hL : (List.replicate n.natAbs y).length = n.natAbs := by simp
        have hlt : n.natAbs - left < (List.replicate n.natAbs y).length := by omega
        have hgood := fun h => prod_step hlt hpr h
        have hlarge := fun h => prod_large hlt hpr h
        have hg : (List.replicate n.natAbs y)[n.natAbs - left] = y := List.getElem_replicate _
        rw [hg] at hgood hlarge
        have el : n.natAbs - left + 1 = n.natAbs - (left - 1) := by omega
        rw [el] at hgood
        have HG := Lib.hid hgood
        have HLG := Lib.hid hlarge
        clear hgood hlarge hpr hlt hL hg el
        have c1 := fun W : World => quaternionOf_any p W
        have c2 := fun W : World => times_any p y W (V.small2 hp hV)
        have hi := V.mul_in hp hV
        have hu := mul_len p y hp.u hV.u
        have HA := Lib.hid hbp
        have HRA := Lib.hid hbr
        have HQ := Lib.hid hq
        obtain ⟨p0, p1, p2, p3, p4, pf, pl⟩ := hbp
        obtain ⟨q1, q2, q3, q0, q4, ql⟩ := hq
        clear hbr
        have kc := @Tail.cell_re
        have hl0' : ((left : Int) == 0) = false := by simpa using hl0
        have hl1 : (1 : Int) ≤ (left : Int) := by omega
        have hl2 : (left : Int) ≤ 1000 := by omega
        by_cases hl : (low (mul p y)).n ≤ 1048576
        · have c3 := fun W : World => unit_ok (mul p y) W hi hl
          have hvl : V (low (mul p y)) := V.of_low hu hl
          have hnext := HG.out hl
          generalize low (mul p y) = z at *
          have HN := Lib.hid hnext
          clear hnext hi hu hl
          go_wp2
          refine Late.region_late2 6 (.agg #[.int .i64 z.a, .int .i64 z.b, .int .i64 z.c, .int .i64 z.d, .int .i64 z.n]) (.int .i64 0) (by kernel_rfl) (by kernel_rfl) (fun c a d v w h => by cases d <;> exact h) _ _ rfl rfl ?_
          simp only [List.take_succ_cons, List.take_zero, List.drop_succ_cons, List.drop_zero]
          repeat (go_big_quiet_step (first | (with_reducible exact Calls.regrown_of (c1 _)) | (with_reducible exact Calls.regrown_of (c2 _)) | (with_reducible exact Calls.regrown_of (c3 _))))
          refine wpQuiet_nil ?_
          intro w3 hw3
          refine ⟨.inl ⟨rfl, fun W => by simp [go_sem]⟩, .inl ⟨rfl, fun W => by simp [go_sem]⟩, ?_⟩
          obtain ⟨b0, b1, b2, b3, b4, bfz, bl⟩ := HA.out.later hw3
          obtain ⟨d0, d1, d2, d3, d4, df, dl⟩ := HRA.out.later hw3
          go_wp2
          go_step3
          have e2 : ((left : Int) - 1) = ((left - 1 : Nat) : Int) := by omega
          rw [e2]
          have nb : ¬ bf = bp := by omega
          have nr : ¬ w.heap.size + 1 = bp := by omega
          have hB : Below w.heap.size w w3 := by repeat (first | (with_reducible exact Below.refl _ _) | (with_reducible refine Below.setCell ?_ ?_ _) | (with_reducible refine Below.drew ?_) | (with_reducible refine Below.alloc ?_ ?_ _) | (with_reducible refine Below.trans ?_ (Below.mono hw3 ?_)) | (with_reducible refine Below.trans ?_ (Below.mono hb ?_)) | (with_reducible exact hw3.size) | (with_reducible exact hb.size) | omega | (simp <;> omega) | (simp <;> (have s := hw3.size; omega)) | (simp <;> (have s := hb.size; omega)) | (have s0 := hw3.size; (try simp at s0); have s1 := hb.size; (try simp at s1); (try simp); omega))
          refine ⟨rfl, ⟨left - 1, z, 0, bf, bp, _, _, _, _, _, _, _, _, _, _, _, _, _, _, _, _, _, _, _, _, _, _, _, _, _, _, _, _, _, _, _, _, _, _, _, _, _, _, _, _, _, _, rfl, by omega, .inl ⟨rfl, hvl, HN.out⟩, (((((HQ.out.later hw3).other nb).other nb).other nb).other nb).other nb, ?_, (((((HRA.out.later hw3).other nr).other nr).other nr).other nr).other nr, hlt1, hlt2, by repeat (first | (with_reducible exact Below.refl _ _) | (with_reducible refine Below.setCell ?_ ?_ _) | (with_reducible refine Below.drew ?_) | (with_reducible refine Below.alloc ?_ ?_ _) | (with_reducible refine Below.trans ?_ (Below.mono hB ?_)) | (with_reducible exact hB.size) | omega | (simp <;> omega) | (simp <;> (have s := hB.size; omega)) | (have s0 := hB.size; (try simp at s0); (try simp); omega))⟩, by simp [intOf]; omega⟩
          exact ⟨by simp [go_sem, b0, b1, b2, b3, b4], by simp [go_sem, b0, b1, b2, b3, b4], by simp [go_sem, b0, b1, b2, b3, b4], by simp [go_sem, b0, b1, b2, b3, b4], by simp [go_sem, b0, b1, b2, b3, b4], fun j => by simp [bfz], by simp [World.setCell]; exact bl⟩
        · have hl' : 1048576 < (low (mul p y)).n := by omega
          have c3 := fun W : World => unit_large (mul p y) W hi hl'
          have hfin := HR.out.symm.trans (HLG.out hl')
          simp only [Prod.mk.injEq] at hfin
          obtain ⟨rfl, rfl⟩ := hfin
          clear hi hu hl hl'
          go_wp2
          refine Late.region_late2 6 (.agg #[.int .i64 zero.a, .int .i64 zero.b, .int .i64 zero.c, .int .i64 zero.d, .int .i64 zero.n]) (.int .i64 3) (by kernel_rfl) (by kernel_rfl) (fun c a d v w h => by cases d <;> exact h) _ _ rfl rfl ?_
          simp only [List.take_succ_cons, List.take_zero, List.drop_succ_cons, List.drop_zero]
          repeat (go_big_quiet_step (first | (with_reducible exact Calls.regrown_of (c1 _)) | (with_reducible exact Calls.regrown_of (c2 _)) | (with_reducible exact Calls.regrown_of (c3 _))))
          refine wpQuiet_nil ?_
          intro w3 hw3
          refine ⟨.inl ⟨rfl, fun W => by simp [go_sem]⟩, .inl ⟨rfl, fun W => by simp [go_sem]⟩, ?_⟩
          obtain ⟨b0, b1, b2, b3, b4, bfz, bl⟩ := HA.out.later hw3
          obtain ⟨d0, d1, d2, d3, d4, df, dl⟩ := HRA.out.later hw3
          go_wp2
          go_step3
          have e2 : ((left : Int) - 1) = ((left - 1 : Nat) : Int) := by omega
          rw [e2]
          have nb : ¬ bf = bp := by omega
          have nr : ¬ w.heap.size + 1 = bp := by omega
          have hB : Below w.heap.size w w3 := by repeat (first | (with_reducible exact Below.refl _ _) | (with_reducible refine Below.setCell ?_ ?_ _) | (with_reducible refine Below.drew ?_) | (with_reducible refine Below.alloc ?_ ?_ _) | (with_reducible refine Below.trans ?_ (Below.mono hw3 ?_)) | (with_reducible refine Below.trans ?_ (Below.mono hb ?_)) | (with_reducible exact hw3.size) | (with_reducible exact hb.size) | omega | (simp <;> omega) | (simp <;> (have s := hw3.size; omega)) | (simp <;> (have s := hb.size; omega)) | (have s0 := hw3.size; (try simp at s0); have s1 := hb.size; (try simp at s1); (try simp); omega))
          refine ⟨rfl, ⟨left - 1, zero, 3, bf, bp, _, _, _, _, _, _, _, _, _, _, _, _, _, _, _, _, _, _, _, _, _, _, _, _, _, _, _, _, _, _, _, _, _, _, _, _, _, _, _, _, _, _, rfl, by omega, .inr ⟨rfl, rfl, rfl, rfl⟩, (((((HQ.out.later hw3).other nb).other nb).other nb).other nb).other nb, ?_, (((((HRA.out.later hw3).other nr).other nr).other nr).other nr).other nr, hlt1, hlt2, by repeat (first | (with_reducible exact Below.refl _ _) | (with_reducible refine Below.setCell ?_ ?_ _) | (with_reducible refine Below.drew ?_) | (with_reducible refine Below.alloc ?_ ?_ _) | (with_reducible refine Below.trans ?_ (Below.mono hB ?_)) | (with_reducible exact hB.size) | omega | (simp <;> omega) | (simp <;> (have s := hB.size; omega)) | (have s0 := hB.size; (try simp at s0); (try simp); omega))⟩, by simp [intOf]; omega⟩
          exact ⟨by simp [go_sem, b0, b1, b2, b3, b4], by simp [go_sem, b0, b1, b2, b3, b4], by simp [go_sem, b0, b1, b2, b3, b4], by simp [go_sem, b0, b1, b2, b3, b4], by simp [go_sem, b0, b1, b2, b3, b4], fun j => by simp [bfz], by simp [World.setCell]; exact bl⟩
    · clear hq
      obtain ⟨b0, b1, b2, b3, b4, bfz, bl⟩ := hbp
      obtain ⟨d0, d1, d2, d3, d4, df, dl⟩ := hbr
      by_cases hl0 : left = 0
      · subst hl0
        go_wp2
        simp only [Exit.jump]
        refine bodyPost_ret (v := .tuple #[.agg #[.int .i64 zero.a, .int .i64 zero.b, .int .i64 zero.c, .int .i64 zero.d, .int .i64 zero.n], .int .i64 3]) ?_ rfl ⟨rfl, ?_⟩
        · simp [results, Try.results30, go_sem, d0, d1, d2, d3, d4]
        · repeat (first | (with_reducible exact Below.refl _ _) | (with_reducible refine Below.setCell ?_ ?_ _) | (with_reducible refine Below.drew ?_) | (with_reducible refine Below.alloc ?_ ?_ _) | (with_reducible refine Below.trans ?_ (Below.mono hb ?_)) | (with_reducible exact hb.size) | omega | (simp <;> omega) | (simp <;> (have s := hb.size; omega)) | (have s0 := hb.size; (try simp at s0); (try simp); omega))
      · have hl0' : ((left : Int) == 0) = false := by simpa using hl0
        go_wp2
        simp only [Exit.jump]
        refine bodyPost_ret (v := .tuple #[.agg #[.int .i64 zero.a, .int .i64 zero.b, .int .i64 zero.c, .int .i64 zero.d, .int .i64 zero.n], .int .i64 3]) ?_ rfl ⟨rfl, ?_⟩
        · simp [results, Try.results30, go_sem, d0, d1, d2, d3, d4]
        · repeat (first | (with_reducible exact Below.refl _ _) | (with_reducible refine Below.setCell ?_ ?_ _) | (with_reducible refine Below.drew ?_) | (with_reducible refine Below.alloc ?_ ?_ _) | (with_reducible refine Below.trans ?_ (Below.mono hb ?_)) | (with_reducible exact hb.size) | omega | (simp <;> omega) | (simp <;> (have s := hb.size; omega)) | (have s0 := hb.size; (try simp at s0); (try simp); omega))
set_option maxRecDepth 100000 in
set_option maxHeartbeats 3200000 in
theorem power_pos (x r : Q) (n er : Int) (w : World) (h : V x) (h1 : 0 ≤ n) (h2 : n ≤ 1000) (hr : prodFrom one (List.replicate n.natAbs x) = (r, er)) : Calls Try.prog 30 #[.agg #[.int .i64 x.a, .int .i64 x.b, .int .i64 x.c, .int .i64 x.d, .int .i64 x.n], .int .i64 n] w fun e w' => e = .returned (.tuple #[.agg #[.int .i64 r.a, .int .i64 r.b, .int .i64 r.c, .int .i64 r.d, .int .i64 r.n], .int .i64 er]) ∧ Below w.heap.size w w' := by
  have c1 := fun W : World => validate_ok x W h
  have c2 := fun W : World => quaternionOf_any x W
  have c4 := fun W : World => isW_yes n W (by omega) h2
  have o1 := fun W : World => one_any W
  have o2 := fun W : World => unit_ok one W ((V.in V.one).le (by omega)) (by decide)
  rw [low_one] at o2
  have hV := h
  clear h
  have HR := Lib.hid hr
  clear hr
  go_enter Try.func30, Try.ntmps30
  go_wp2
  refine wp_scope_jumps2 0 (powJ w x n.natAbs r er (.agg #[.int .i64 x.a, .int .i64 x.b, .int .i64 x.c, .int .i64 x.d, .int .i64 x.n]) (.int .i64 n)) (fun a' _ => (intOf (a'.tmps.getD 8 undef)).toNat) rfl ?pass ?first
  case first =>
    intro hp
    have HP := Lib.hid hp
    clear hp
    go_wp2_with (first | ((with_reducible refine (c1 _).mono ?_); rintro e w1 ⟨rfl, hw1⟩; have hc1 := Tail.cells hw1; have zw10 := Nat.lt_of_lt_of_le (n := w.heap.size) (by simp <;> omega) hw1.size; have zw11 := Nat.lt_of_lt_of_le (n := w.heap.size + 1) (by simp <;> omega) hw1.size) | ((with_reducible refine (c4 _).mono ?_); rintro e w2 ⟨rfl, rfl⟩) | ((with_reducible refine (c2 _).mono ?_); rintro e w2 ⟨rfl, hw2⟩; have hc2 := Tail.cells hw2; have z20 := Nat.lt_of_lt_of_le zw10 hw2.size; have z21 := Nat.lt_of_lt_of_le zw11 hw2.size) | ((with_reducible refine (o1 _).mono ?_); rintro e w4 ⟨rfl, hw4⟩; have hc4 := Tail.cells hw4; have s4 := hw4.size) | ((with_reducible refine (o2 _).mono ?_); rintro e w5 ⟨rfl, hw5⟩; have hc5 := Tail.cells hw5; have s5 := hw5.size))
    go_step3
    obtain ⟨m, rfl⟩ : ∃ m : Nat, n = (m : Int) := ⟨n.natAbs, by omega⟩
    have bR0 : UBox ((w.alloc (.cells #[.int .i64 x.a, .int .i64 x.b, .int .i64 x.c, .int .i64 x.d, .int .i64 x.n] 23)).alloc (.cells #[.int .i64 0, .int .i64 0, .int .i64 0, .int .i64 0, .int .i64 0] 23)) (w.heap.size + 1) zero := ⟨by simp [go_sem, zero], by simp [go_sem, zero], by simp [go_sem, zero], by simp [go_sem, zero], by simp [go_sem, zero], fun j => by simp [go_sem], by simp⟩
    have bR4 := ((((bR0.later hw1).later hw2).later ((Below.refl _ _).alloc (Nat.le_refl _) _)).later hw4).later hw5
    have q4 := ((⟨by simp [go_sem], by simp [go_sem], by simp [go_sem], by simp [go_sem], by simp [go_sem], by simp⟩ : QRead (w2.alloc (.cells #[.int .i64 x.b, .int .i64 x.c, .int .i64 x.d, .int .i64 x.a, .int .i64 x.n] 68)) w2.heap.size x).later hw4).later hw5
    have s1 := hw1.size
    simp at s1
    have s2 := hw2.size
    have hB : Below w.heap.size w w5 := by repeat (first | (with_reducible exact Below.refl _ _) | (with_reducible refine Below.setCell ?_ ?_ _) | (with_reducible refine Below.drew ?_) | (with_reducible refine Below.alloc ?_ ?_ _) | (with_reducible refine Below.trans ?_ (Below.mono hw5 ?_)) | (with_reducible refine Below.trans ?_ (Below.mono hw4 ?_)) | (with_reducible refine Below.trans ?_ (Below.mono hw2 ?_)) | (with_reducible refine Below.trans ?_ (Below.mono hw1 ?_)) | (with_reducible exact hw5.size) | (with_reducible exact hw4.size) | (with_reducible exact hw2.size) | (with_reducible exact hw1.size) | omega | (simp <;> omega) | (simp <;> (have s := hw5.size; omega)) | (simp <;> (have s := hw4.size; omega)) | (simp <;> (have s := hw2.size; omega)) | (simp <;> (have s := hw1.size; omega)) | (have s0 := hw5.size; (try simp at s0); have s1 := hw4.size; (try simp at s1); have s2 := hw2.size; (try simp at s2); have s3 := hw1.size; (try simp at s3); (try simp); omega))
    have hbl := q4.lt
    rename_i K hK
    refine hK _ _ (HP.out _ _ ?_)
    refine ⟨m, one, 0, w2.heap.size, w5.heap.size, _, _, _, _, _, _, _, _, _, _, _, _, _, _, _, _, _, _, _, _, _, _, _, _, _, _, _, _, _, _, _, _, _, _, _, _, _, _, _, _, _, _, rfl, by simp, .inl ⟨rfl, V.one, by simp [prodFrom]⟩, q4.later ((Below.refl _ _).alloc (Nat.le_refl _) _), ?_, bR4.later ((Below.refl _ _).alloc (Nat.le_refl _) _), by omega, hbl, hB.alloc hB.size _⟩
    exact ⟨by simp [go_sem], by simp [go_sem], by simp [go_sem], by simp [go_sem], by simp [go_sem], fun j => by simp [go_sem], by simp⟩
  case pass =>
    clear c1 c2 c4 o1 o2
    rintro a' wr ⟨left, p, e, bf, bp, u11, u12, u13, u14, u15, u16, u17, u18, u19, u20, u21, u22, u23, u24, u25, u26, u27, u28, u29, u30, u31, u32, u33, u34, u35, u36, u37, u38, u39, u40, u41, u42, u43, u44, u45, u46, u47, u48, u49, u50, u51, u52, rfl, hle, hc, hq, hbp, hbr, hlt1, hlt2, hb⟩
    have hbw := hb
    have hbs := hb.size
    rcases hc with ⟨rfl, hp, hpr⟩ | ⟨rfl, rfl, rfl, rfl⟩
    · by_cases hl0 : left = 0
      · subst hl0
        have hfin := HR.out.symm.trans (show prodFrom one (List.replicate n.natAbs x) = (p, 0) by rwa [Nat.sub_zero, List.take_of_length_le (by simp)] at hpr)
        simp only [Prod.mk.injEq] at hfin
        obtain ⟨rfl, rfl⟩ := hfin
        clear hpr hq
        obtain ⟨b0, b1, b2, b3, b4, bfz, bl⟩ := hbp
        obtain ⟨d0, d1, d2, d3, d4, df, dl⟩ := hbr
        go_wp2
        simp only [Exit.jump]
        refine bodyPost_ret (v := .tuple #[.agg #[.int .i64 r.a, .int .i64 r.b, .int .i64 r.c, .int .i64 r.d, .int .i64 r.n], .int .i64 0]) ?_ rfl ⟨rfl, ?_⟩
        · simp [results, Try.results30, go_sem, d0, d1, d2, d3, d4]
        · repeat (first | (with_reducible exact Below.refl _ _) | (with_reducible refine Below.setCell ?_ ?_ _) | (with_reducible refine Below.drew ?_) | (with_reducible refine Below.alloc ?_ ?_ _) | (with_reducible refine Below.trans ?_ (Below.mono hb ?_)) | (with_reducible exact hb.size) | omega | (simp <;> omega) | (simp <;> (have s := hb.size; omega)) | (have s0 := hb.size; (try simp at s0); (try simp); omega))
      · have hL : (List.replicate n.natAbs x).length = n.natAbs := by simp
        have hlt : n.natAbs - left < (List.replicate n.natAbs x).length := by omega
        have hgood := fun h => prod_step hlt hpr h
        have hlarge := fun h => prod_large hlt hpr h
        have hg : (List.replicate n.natAbs x)[n.natAbs - left] = x := List.getElem_replicate _
        rw [hg] at hgood hlarge
        have el : n.natAbs - left + 1 = n.natAbs - (left - 1) := by omega
        rw [el] at hgood
        have HG := Lib.hid hgood
        have HLG := Lib.hid hlarge
        clear hgood hlarge hpr hlt hL hg el
        have c1 := fun W : World => quaternionOf_any p W
        have c2 := fun W : World => times_any p x W (V.small2 hp hV)
        have hi := V.mul_in hp hV
        have hu := mul_len p x hp.u hV.u
        have HA := Lib.hid hbp
        have HRA := Lib.hid hbr
        have HQ := Lib.hid hq
        obtain ⟨p0, p1, p2, p3, p4, pf, pl⟩ := hbp
        obtain ⟨q1, q2, q3, q0, q4, ql⟩ := hq
        clear hbr
        have kc := @Tail.cell_re
        have hl0' : ((left : Int) == 0) = false := by simpa using hl0
        have hl1 : (1 : Int) ≤ (left : Int) := by omega
        have hl2 : (left : Int) ≤ 1000 := by omega
        by_cases hl : (low (mul p x)).n ≤ 1048576
        · have c3 := fun W : World => unit_ok (mul p x) W hi hl
          have hvl : V (low (mul p x)) := V.of_low hu hl
          have hnext := HG.out hl
          generalize low (mul p x) = z at *
          have HN := Lib.hid hnext
          clear hnext hi hu hl
          go_wp2
          refine Late.region_late2 6 (.agg #[.int .i64 z.a, .int .i64 z.b, .int .i64 z.c, .int .i64 z.d, .int .i64 z.n]) (.int .i64 0) (by kernel_rfl) (by kernel_rfl) (fun c a d v w h => by cases d <;> exact h) _ _ rfl rfl ?_
          simp only [List.take_succ_cons, List.take_zero, List.drop_succ_cons, List.drop_zero]
          repeat (go_big_quiet_step (first | (with_reducible exact Calls.regrown_of (c1 _)) | (with_reducible exact Calls.regrown_of (c2 _)) | (with_reducible exact Calls.regrown_of (c3 _))))
          refine wpQuiet_nil ?_
          intro w3 hw3
          refine ⟨.inl ⟨rfl, fun W => by simp [go_sem]⟩, .inl ⟨rfl, fun W => by simp [go_sem]⟩, ?_⟩
          obtain ⟨b0, b1, b2, b3, b4, bfz, bl⟩ := HA.out.later hw3
          obtain ⟨d0, d1, d2, d3, d4, df, dl⟩ := HRA.out.later hw3
          go_wp2
          go_step3
          have e2 : ((left : Int) - 1) = ((left - 1 : Nat) : Int) := by omega
          rw [e2]
          have nb : ¬ bf = bp := by omega
          have nr : ¬ w.heap.size + 1 = bp := by omega
          have hB : Below w.heap.size w w3 := by repeat (first | (with_reducible exact Below.refl _ _) | (with_reducible refine Below.setCell ?_ ?_ _) | (with_reducible refine Below.drew ?_) | (with_reducible refine Below.alloc ?_ ?_ _) | (with_reducible refine Below.trans ?_ (Below.mono hw3 ?_)) | (with_reducible refine Below.trans ?_ (Below.mono hb ?_)) | (with_reducible exact hw3.size) | (with_reducible exact hb.size) | omega | (simp <;> omega) | (simp <;> (have s := hw3.size; omega)) | (simp <;> (have s := hb.size; omega)) | (have s0 := hw3.size; (try simp at s0); have s1 := hb.size; (try simp at s1); (try simp); omega))
          refine ⟨rfl, ⟨left - 1, z, 0, bf, bp, _, _, _, _, _, _, _, _, _, _, _, _, _, _, _, _, _, _, _, _, _, _, _, _, _, _, _, _, _, _, _, _, _, _, _, _, _, _, _, _, _, _, rfl, by omega, .inl ⟨rfl, hvl, HN.out⟩, (((((HQ.out.later hw3).other nb).other nb).other nb).other nb).other nb, ?_, (((((HRA.out.later hw3).other nr).other nr).other nr).other nr).other nr, hlt1, hlt2, by repeat (first | (with_reducible exact Below.refl _ _) | (with_reducible refine Below.setCell ?_ ?_ _) | (with_reducible refine Below.drew ?_) | (with_reducible refine Below.alloc ?_ ?_ _) | (with_reducible refine Below.trans ?_ (Below.mono hB ?_)) | (with_reducible exact hB.size) | omega | (simp <;> omega) | (simp <;> (have s := hB.size; omega)) | (have s0 := hB.size; (try simp at s0); (try simp); omega))⟩, by simp [intOf]; omega⟩
          exact ⟨by simp [go_sem, b0, b1, b2, b3, b4], by simp [go_sem, b0, b1, b2, b3, b4], by simp [go_sem, b0, b1, b2, b3, b4], by simp [go_sem, b0, b1, b2, b3, b4], by simp [go_sem, b0, b1, b2, b3, b4], fun j => by simp [bfz], by simp [World.setCell]; exact bl⟩
        · have hl' : 1048576 < (low (mul p x)).n := by omega
          have c3 := fun W : World => unit_large (mul p x) W hi hl'
          have hfin := HR.out.symm.trans (HLG.out hl')
          simp only [Prod.mk.injEq] at hfin
          obtain ⟨rfl, rfl⟩ := hfin
          clear hi hu hl hl'
          go_wp2
          refine Late.region_late2 6 (.agg #[.int .i64 zero.a, .int .i64 zero.b, .int .i64 zero.c, .int .i64 zero.d, .int .i64 zero.n]) (.int .i64 3) (by kernel_rfl) (by kernel_rfl) (fun c a d v w h => by cases d <;> exact h) _ _ rfl rfl ?_
          simp only [List.take_succ_cons, List.take_zero, List.drop_succ_cons, List.drop_zero]
          repeat (go_big_quiet_step (first | (with_reducible exact Calls.regrown_of (c1 _)) | (with_reducible exact Calls.regrown_of (c2 _)) | (with_reducible exact Calls.regrown_of (c3 _))))
          refine wpQuiet_nil ?_
          intro w3 hw3
          refine ⟨.inl ⟨rfl, fun W => by simp [go_sem]⟩, .inl ⟨rfl, fun W => by simp [go_sem]⟩, ?_⟩
          obtain ⟨b0, b1, b2, b3, b4, bfz, bl⟩ := HA.out.later hw3
          obtain ⟨d0, d1, d2, d3, d4, df, dl⟩ := HRA.out.later hw3
          go_wp2
          go_step3
          have e2 : ((left : Int) - 1) = ((left - 1 : Nat) : Int) := by omega
          rw [e2]
          have nb : ¬ bf = bp := by omega
          have nr : ¬ w.heap.size + 1 = bp := by omega
          have hB : Below w.heap.size w w3 := by repeat (first | (with_reducible exact Below.refl _ _) | (with_reducible refine Below.setCell ?_ ?_ _) | (with_reducible refine Below.drew ?_) | (with_reducible refine Below.alloc ?_ ?_ _) | (with_reducible refine Below.trans ?_ (Below.mono hw3 ?_)) | (with_reducible refine Below.trans ?_ (Below.mono hb ?_)) | (with_reducible exact hw3.size) | (with_reducible exact hb.size) | omega | (simp <;> omega) | (simp <;> (have s := hw3.size; omega)) | (simp <;> (have s := hb.size; omega)) | (have s0 := hw3.size; (try simp at s0); have s1 := hb.size; (try simp at s1); (try simp); omega))
          refine ⟨rfl, ⟨left - 1, zero, 3, bf, bp, _, _, _, _, _, _, _, _, _, _, _, _, _, _, _, _, _, _, _, _, _, _, _, _, _, _, _, _, _, _, _, _, _, _, _, _, _, _, _, _, _, _, rfl, by omega, .inr ⟨rfl, rfl, rfl, rfl⟩, (((((HQ.out.later hw3).other nb).other nb).other nb).other nb).other nb, ?_, (((((HRA.out.later hw3).other nr).other nr).other nr).other nr).other nr, hlt1, hlt2, by repeat (first | (with_reducible exact Below.refl _ _) | (with_reducible refine Below.setCell ?_ ?_ _) | (with_reducible refine Below.drew ?_) | (with_reducible refine Below.alloc ?_ ?_ _) | (with_reducible refine Below.trans ?_ (Below.mono hB ?_)) | (with_reducible exact hB.size) | omega | (simp <;> omega) | (simp <;> (have s := hB.size; omega)) | (have s0 := hB.size; (try simp at s0); (try simp); omega))⟩, by simp [intOf]; omega⟩
          exact ⟨by simp [go_sem, b0, b1, b2, b3, b4], by simp [go_sem, b0, b1, b2, b3, b4], by simp [go_sem, b0, b1, b2, b3, b4], by simp [go_sem, b0, b1, b2, b3, b4], by simp [go_sem, b0, b1, b2, b3, b4], fun j => by simp [bfz], by simp [World.setCell]; exact bl⟩
    · clear hq
      obtain ⟨b0, b1, b2, b3, b4, bfz, bl⟩ := hbp
      obtain ⟨d0, d1, d2, d3, d4, df, dl⟩ := hbr
      by_cases hl0 : left = 0
      · subst hl0
        go_wp2
        simp only [Exit.jump]
        refine bodyPost_ret (v := .tuple #[.agg #[.int .i64 zero.a, .int .i64 zero.b, .int .i64 zero.c, .int .i64 zero.d, .int .i64 zero.n], .int .i64 3]) ?_ rfl ⟨rfl, ?_⟩
        · simp [results, Try.results30, go_sem, d0, d1, d2, d3, d4]
        · repeat (first | (with_reducible exact Below.refl _ _) | (with_reducible refine Below.setCell ?_ ?_ _) | (with_reducible refine Below.drew ?_) | (with_reducible refine Below.alloc ?_ ?_ _) | (with_reducible refine Below.trans ?_ (Below.mono hb ?_)) | (with_reducible exact hb.size) | omega | (simp <;> omega) | (simp <;> (have s := hb.size; omega)) | (have s0 := hb.size; (try simp at s0); (try simp); omega))
      · have hl0' : ((left : Int) == 0) = false := by simpa using hl0
        go_wp2
        simp only [Exit.jump]
        refine bodyPost_ret (v := .tuple #[.agg #[.int .i64 zero.a, .int .i64 zero.b, .int .i64 zero.c, .int .i64 zero.d, .int .i64 zero.n], .int .i64 3]) ?_ rfl ⟨rfl, ?_⟩
        · simp [results, Try.results30, go_sem, d0, d1, d2, d3, d4]
        · repeat (first | (with_reducible exact Below.refl _ _) | (with_reducible refine Below.setCell ?_ ?_ _) | (with_reducible refine Below.drew ?_) | (with_reducible refine Below.alloc ?_ ?_ _) | (with_reducible refine Below.trans ?_ (Below.mono hb ?_)) | (with_reducible exact hb.size) | omega | (simp <;> omega) | (simp <;> (have s := hb.size; omega)) | (have s0 := hb.size; (try simp at s0); (try simp); omega))
end Go.Proofs.Ytecoemdpfpdeoaa
