/- LoopRectangles: the paths around rectangles and the means of their traces are the document's, for all fields and rectangles.
Conditions: none. -/
import Derived.Test.YtjidbajcnomceaaGreatMbC
import Derived.Test.YtjidbajcnomceaaGreatLooC
import Derived.Test.YtjidbajcnomceaaGreatOpen4
import Derived.Test.YtjidbajcnomceaaGreatInts
import Derived.Test.YtjidbajcnomceaaGreatWlkA
import Derived.Test.YtjidbajcnomceaaGreatJFacts
namespace Go.Proofs.YtjidbajcnomceaaGreat
set_option linter.unusedVariables false
set_option linter.unusedSimpArgs false
set_option maxRecDepth 1000000
section
open Go.ChangeShapes Go.WideShapes Go.ChangeAt Go.RowKit Go.Joins Go.Deep
variable {H : Type} {enc : TypeId × Value → H} {w : World} {base : Nat} {spare : Nat → Bool} {held : Bool}
theorem cells_rect : Tryz.prog.cellsOf 45 = 4 := by kernel_rfl
theorem one_of_rect {fs : Array Field} (_ : Tryz.prog.underlying 45 = some (.struct fs)) (h : oneCellFields Tryz.prog fs = true) : oneCellFields Tryz.prog fs = true := h
theorem open_rect {r : Reach} {b0 : Nat} {v : Value} {d : DataW H} {p : List MemPlace} (hv : Value.okWide Tryz.prog w r b0 45 v) (h : DataW.Trod enc Tryz.prog w base spare held 45 v d p) : ∃ a b c e : Int, v = .agg #[.int .i64 a, .int .i64 b, .int .i64 c, .int .i64 e] := by
  obtain ⟨cs, rfl, hsz⟩ := okWide_struct Tryz.underlying45 hv
  obtain ⟨l⟩ := cs
  match l, hsz.trans cells_rect with
  | [c0, c1, c2, c3], _ =>
    obtain ⟨fuel, hf⟩ := h
    obtain ⟨xs, n, _, _, _, hlen, hg⟩ := DataW.trod_struct Tryz.underlying45 hf
    have hone := one_of_rect (fs := _) Tryz.underlying45 (by kernel_rfl)
    match xs, hlen with
    | [y0, y1, y2, y3], _ =>
      obtain ⟨o0, k0⟩ := hone_of hone 0 _ rfl
      obtain ⟨o1, k1⟩ := hone_of hone 1 _ rfl
      obtain ⟨o2, k2⟩ := hone_of hone 2 _ rfl
      obtain ⟨o3, k3⟩ := hone_of hone 3 _ rfl
      obtain ⟨a0, e0, _, _⟩ := DataW.trod_int Tryz.underlying3 (show DataW.trod enc Tryz.prog w base spare held n 3 [c0] = some y0 by simpa [Value.cells, o0, cells3] using hg 0 _ rfl)
      obtain ⟨a1, e1, _, _⟩ := DataW.trod_int Tryz.underlying3 (show DataW.trod enc Tryz.prog w base spare held n 3 [c1] = some y1 by simpa [Value.cells, o1, cells3] using hg 1 _ rfl)
      obtain ⟨a2, e2, _, _⟩ := DataW.trod_int Tryz.underlying3 (show DataW.trod enc Tryz.prog w base spare held n 3 [c2] = some y2 by simpa [Value.cells, o2, cells3] using hg 2 _ rfl)
      obtain ⟨a3, e3, _, _⟩ := DataW.trod_int Tryz.underlying3 (show DataW.trod enc Tryz.prog w base spare held n 3 [c3] = some y3 by simpa [Value.cells, o3, cells3] using hg 3 _ rfl)
      simp at e0 e1 e2 e3
      subst e0 e1 e2 e3
      exact ⟨a0, a1, a2, a3, rfl⟩
end

open Go.ChangeShapes Go.WideShapes Go.ChangeAt Go.RowKit
open Um Tm Lm Km

set_option maxHeartbeats 6400000 in
theorem loopRect_core (a b c x y u v m1 m2 e1 e3 : Int) (ao : Option Addr) (m cap : Nat) (L : List Q) (P : List Int) (w : World) (hm : LiesO w ao L) (hT : P.length ≤ 1000)
    (hLg : ∀ W : World, Calls Tryz.prog 8 #[.agg #[.int .i64 a, .int .i64 b, .int .i64 c, .slice ao m cap]] W fun e w' => e = .returned (.bool false) ∧ Below W.heap.size W w')
    (c1 : ∀ W : World, Calls Tryz.prog 18 #[.int .i64 x, .int .i64 y, .int .i64 u, .int .i64 v] W fun e w' => (∃ (to : Option Addr) (k : Nat), e = .returned (.tuple #[.slice to P.length k, .int .i64 e1]) ∧ LiesOI w' to P) ∧ Below W.heap.size W w')
    (c2 : ∀ W : World, Calls Tryz.prog 19 #[.int .i64 x, .int .i64 y, .int .i64 u, .int .i64 v] W fun e w' => (∃ (to : Option Addr) (k : Nat), e = .returned (.tuple #[.slice to P.length k, .int .i64 e1]) ∧ LiesOI w' to P) ∧ Below W.heap.size W w')
    (c3 : ∀ W : World, LiesO W ao L → Calls Tryz.prog 20 #[.agg #[.int .i64 a, .int .i64 b, .int .i64 c, .slice ao m cap], .int .i64 x, .int .i64 y, .int .i64 u, .int .i64 v] W fun e w' => e = .returned (.tuple #[.agg #[.int .i64 m1, .int .i64 m2], .int .i64 e3]) ∧ Below W.heap.size W w')
    (c4 : ∀ W : World, LiesO W ao L → Calls Tryz.prog 21 #[.agg #[.int .i64 a, .int .i64 b, .int .i64 c, .slice ao m cap], .int .i64 x, .int .i64 y, .int .i64 u, .int .i64 v] W fun e w' => e = .returned (.tuple #[.agg #[.int .i64 m1, .int .i64 m2], .int .i64 e3]) ∧ Below W.heap.size W w')
    : Calls Tryz.prog 5 #[.agg #[.int .i64 a, .int .i64 b, .int .i64 c, .slice ao m cap], .agg #[.int .i64 x, .int .i64 y, .int .i64 u, .int .i64 v]] w fun e w' => e = .returned (.bool true) ∧ Below w.heap.size w w' := by
  have kn := known3_any
  have H0 := Lib.hid hm
  clear hm
  have ss : ∀ (a1 a2 : Option Addr) (k1 k2 : Nat) (W : World), LiesOI W a1 P → LiesOI W a2 P → Calls Tryz.prog 22 #[.slice a1 P.length k1, .slice a2 P.length k2] W fun e w' => e = .returned (.bool true) ∧ Below W.heap.size W w' := fun a1 a2 k1 k2 W h1 h2 => by
    have := sameInts_any a1 a2 k1 k2 P P W h1 h2 (by omega)
    simpa using this
  generalize P.length = pn at *
  go_enter Tryz.func5, Tryz.ntmps5
  go_wp2_with (fail)
  refine (hLg _).mono ?_
  rintro e w1 ⟨rfl, hw1⟩
  have bw1 : Below w.heap.size w w1 := bel2 hw1
  have TF1 := Lib.hid (FW.n2a.later hw1)
  have TR1 := Lib.hid (C4.n2b.later hw1)
  have H1 := Lib.hid (H0.out.later bw1)
  have HB1 := Lib.hid bw1
  clear hw1 bw1 H0
  obtain ⟨tr1_0, tr1_1, tr1_2, tr1_3, tr1_4, tr1_5⟩ := TR1.out
  go_wp2_with (fail)
  refine (c1 _).mono ?_
  rintro e w2 ⟨⟨to1, k1, rfl, hl1⟩, hw2⟩
  clear tr1_0 tr1_1 tr1_2 tr1_3 tr1_4 tr1_5
  have bw2 : Below w1.heap.size w1 w2 := hw2
  have H2 := Lib.hid (H1.out.later bw2)
  have TF2 := Lib.hid (TF1.out.later bw2)
  have TR2 := Lib.hid (TR1.out.later bw2)
  have HB2 := Lib.hid (HB1.out.trans (bw2.mono HB1.out.size))
  have LA2 := Lib.hid hl1
  clear hl1
  clear hw2 bw2 H1 TF1 TR1 HB1
  obtain ⟨tr2_0, tr2_1, tr2_2, tr2_3, tr2_4, tr2_5⟩ := TR2.out
  go_wp2_with (fail)
  refine (c2 _).mono ?_
  rintro e w3 ⟨⟨to2, k2, rfl, hl2⟩, hw3⟩
  clear tr2_0 tr2_1 tr2_2 tr2_3 tr2_4 tr2_5
  have bw3 : Below w2.heap.size w2 w3 := hw3
  have H3 := Lib.hid (H2.out.later bw3)
  have TF3 := Lib.hid (TF2.out.later bw3)
  have TR3 := Lib.hid (TR2.out.later bw3)
  have LA3 := Lib.hid (LA2.out.later bw3)
  have HB3 := Lib.hid (HB2.out.trans (bw3.mono HB2.out.size))
  have LB3 := Lib.hid hl2
  clear hl2
  clear hw3 bw3 H2 TF2 TR2 LA2 HB2
  obtain ⟨tf3_0, tf3_1, tf3_2, tf3_3, tf3_4, tf3_5⟩ := TF3.out
  obtain ⟨tr3_0, tr3_1, tr3_2, tr3_3, tr3_4, tr3_5⟩ := TR3.out
  go_wp2_with (fail)
  refine (c3 _ (H3.out)).mono ?_
  rintro e w4 ⟨rfl, hw4⟩
  clear tf3_0 tf3_1 tf3_2 tf3_3 tf3_4 tf3_5 tr3_0 tr3_1 tr3_2 tr3_3 tr3_4 tr3_5
  have bw4 : Below w3.heap.size w3 w4 := hw4
  have H4 := Lib.hid (H3.out.later bw4)
  have TF4 := Lib.hid (TF3.out.later bw4)
  have TR4 := Lib.hid (TR3.out.later bw4)
  have LA4 := Lib.hid (LA3.out.later bw4)
  have LB4 := Lib.hid (LB3.out.later bw4)
  have HB4 := Lib.hid (HB3.out.trans (bw4.mono HB3.out.size))
  clear hw4 bw4 H3 TF3 TR3 LA3 LB3 HB3
  obtain ⟨tf4_0, tf4_1, tf4_2, tf4_3, tf4_4, tf4_5⟩ := TF4.out
  obtain ⟨tr4_0, tr4_1, tr4_2, tr4_3, tr4_4, tr4_5⟩ := TR4.out
  go_wp2_with (fail)
  refine (c4 _ (H4.out.later ba1)).mono ?_
  rintro e w5 ⟨rfl, hw5⟩
  clear tf4_0 tf4_1 tf4_2 tf4_3 tf4_4 tf4_5 tr4_0 tr4_1 tr4_2 tr4_3 tr4_4 tr4_5
  have bw5 : Below w4.heap.size w4 w5 := bel1 hw5
  have TM5 := Lib.hid (C2.n1.later hw5)
  have H5 := Lib.hid (H4.out.later bw5)
  have TF5 := Lib.hid (TF4.out.later bw5)
  have TR5 := Lib.hid (TR4.out.later bw5)
  have LA5 := Lib.hid (LA4.out.later bw5)
  have LB5 := Lib.hid (LB4.out.later bw5)
  have HB5 := Lib.hid (HB4.out.trans (bw5.mono HB4.out.size))
  clear hw5 bw5 H4 TF4 TR4 LA4 LB4 HB4
  obtain ⟨tm5_0, tm5_1, tm5_2, tm5_3⟩ := TM5.out
  go_wp2_with (fail)
  refine (ss _ _ _ _ _ (LA5.out.later ba1) (LB5.out.later ba1)).mono ?_
  rintro e w6 ⟨rfl, hw6⟩
  clear tm5_0 tm5_1 tm5_2 tm5_3
  have bw6 : Below w5.heap.size w5 w6 := bel1 hw6
  have TN6 := Lib.hid (C2.n1.later hw6)
  have H6 := Lib.hid (H5.out.later bw6)
  have TF6 := Lib.hid (TF5.out.later bw6)
  have TR6 := Lib.hid (TR5.out.later bw6)
  have LA6 := Lib.hid (LA5.out.later bw6)
  have LB6 := Lib.hid (LB5.out.later bw6)
  have TM6 := Lib.hid (TM5.out.later bw6)
  have HB6 := Lib.hid (HB5.out.trans (bw6.mono HB5.out.size))
  clear hw6 bw6 H5 TF5 TR5 LA5 LB5 TM5 HB5
  obtain ⟨tm6_0, tm6_1, tm6_2, tm6_3⟩ := TM6.out
  obtain ⟨tn6_0, tn6_1, tn6_2, tn6_3⟩ := TN6.out
  go_wp2_with (fail)
  refine (kn _).mono ?_
  rintro e w7 ⟨rfl, hw7⟩
  clear tm6_0 tm6_1 tm6_2 tm6_3 tn6_0 tn6_1 tn6_2 tn6_3
  have bw7 : Below w6.heap.size w6 w7 := hw7
  have H7 := Lib.hid (H6.out.later bw7)
  have TF7 := Lib.hid (TF6.out.later bw7)
  have TR7 := Lib.hid (TR6.out.later bw7)
  have LA7 := Lib.hid (LA6.out.later bw7)
  have LB7 := Lib.hid (LB6.out.later bw7)
  have TM7 := Lib.hid (TM6.out.later bw7)
  have TN7 := Lib.hid (TN6.out.later bw7)
  have HB7 := Lib.hid (HB6.out.trans (bw7.mono HB6.out.size))
  clear hw7 bw7 H6 TF6 TR6 LA6 LB6 TM6 TN6 HB6
  go_wp2
  go_ret
  exact ⟨rfl, HB7.out⟩

set_option maxHeartbeats 800000 in
theorem loopRect_long (a b c x y u v : Int) (fo : Option Addr) (n cap : Nat) (w : World) (hn : 100 < n) : Calls Tryz.prog 5 #[.agg #[.int .i64 a, .int .i64 b, .int .i64 c, .slice fo n cap], .agg #[.int .i64 x, .int .i64 y, .int .i64 u, .int .i64 v]] w fun e w' => e = .returned (.bool true) ∧ Below w.heap.size w w' := by
  have kn := known3_any
  have lg := fun W : World => long_any a b c fo cap n true W (.inr ⟨hn, rfl⟩)
  go_enter Tryz.func5, Tryz.ntmps5
  go_wp2_with (first | ((with_reducible refine (lg _).mono ?_); rintro e w1 ⟨rfl, hw1⟩; have hc1 := Tail.cells hw1; have s1 := hw1.size; (try simp at s1); (try have z1_0 : w.heap.size < w1.heap.size := (by omega)); clear s1) | ((with_reducible refine (kn _).mono ?_); rintro e w2 ⟨rfl, hw2⟩; have hc2 := Tail.cells hw2; have s2 := hw2.size; (try simp at s2); (try have z2_0 : w.heap.size < w2.heap.size := (by omega)); (try have z2_1 : w1.heap.size < w2.heap.size := (by omega)); clear s2))
  go_ret
  exact ⟨rfl, by repeat (first | (with_reducible exact Below.refl _ _) | (with_reducible refine Below.setCell ?_ ?_ _) | (with_reducible refine Below.drew ?_) | (with_reducible refine Below.alloc ?_ ?_ _) | (with_reducible refine Below.trans ?_ (Below.mono hw2 ?_)) | (with_reducible refine Below.trans ?_ (Below.mono hw1 ?_)) | (with_reducible exact hw2.size) | (with_reducible exact hw1.size) | omega | (simp <;> omega) | (simp <;> (have s := hw2.size; omega)) | (simp <;> (have s := hw1.size; omega)) | (have s0 := hw2.size; (try simp at s0); have s1 := hw1.size; (try simp at s1); (try simp); omega))⟩
theorem loopRectangles_walk (a b c : Int) (fo : Option Addr) (L : List Q) (cap : Nat) (x y u v : Int) (w : World) (hc : L.length ≤ maxLen) (hL : LiesO w fo L) : Calls Tryz.prog 5 #[.agg #[.int .i64 a, .int .i64 b, .int .i64 c, .slice fo L.length cap], .agg #[.int .i64 x, .int .i64 y, .int .i64 u, .int .i64 v]] w fun e w' => e = .returned (.bool true) ∧ Below w.heap.size w w' := by
  by_cases hn : 100 < L.length
  · exact loopRect_long a b c x y u v fo _ cap w hn
  · have lg := fun W : World => long_any a b c fo cap L.length false W (.inl ⟨by omega, rfl⟩)
    obtain ⟨r, hr⟩ := fldR_ex a b c L
    by_cases hx : Rc x y u v
    · have h8 := hx.len
      have C1 := fun W => rectangle_ok x y u v W hx
      have C2 := fun W => refRectangle_ok x y u v W hx
      by_cases h0 : r = 0
      · subst h0
        obtain ⟨bl, off, rfl, hli⟩ := fld_some hr hL
        have hF := fldR_Fl hr
        obtain ⟨-, -, p3, -⟩ := mul_rng hF.z.a1 hF.z.a4 hF.z.b1 hF.z.b4 hF.z.c1 hF.z.c4
        have hne : L ≠ [] := by
          rintro rfl
          have h3 := hF.n
          simp at h3; omega
        have get : ∀ W : World, LiesO W (some ⟨bl, off, none⟩) L → Lies W bl off L := fun W h => by
          rcases h with h | ⟨b1, o1, e, h⟩
          · exact absurd h hne
          · simp at e
            obtain ⟨rfl, rfl⟩ := e
            exact h
        obtain ⟨N, hN⟩ := Int.eq_ofNat_of_zero_le (show 0 ≤ a * b * c by omega)
        exact loopRect_core a b c x y u v _ _ 0 0 (some ⟨bl, off, none⟩) L.length cap L (rc x y u v) w hL (by omega) lg C1 C2
          (fun W h => wilson_ok a b c x y u v bl off cap N L W (get W h) hF hN.symm hx) (fun W h => refWilson_ok a b c x y u v bl off cap N L W (get W h) hF hN.symm hx)
      · exact loopRect_core a b c x y u v 0 0 0 r fo L.length cap L (rc x y u v) w hL (by omega) lg C1 C2
          (fun W h => wilson_bad a b c r x y u v fo cap L W h hr h0 (by omega)) (fun W h => refWilson_bad a b c r x y u v fo cap L W h hr h0 (by omega))
    · have C1 : ∀ W : World, Calls Tryz.prog 18 #[.int .i64 x, .int .i64 y, .int .i64 u, .int .i64 v] W fun e w' => (∃ (to : Option Addr) (k : Nat), e = .returned (.tuple #[.slice to ([] : List Int).length k, .int .i64 1]) ∧ LiesOI w' to []) ∧ Below W.heap.size W w' := fun W => (rectangle_bad x y u v W hx).mono fun e w' ⟨he, hb⟩ => ⟨⟨none, 0, he, .inl rfl⟩, hb⟩
      have C2 : ∀ W : World, Calls Tryz.prog 19 #[.int .i64 x, .int .i64 y, .int .i64 u, .int .i64 v] W fun e w' => (∃ (to : Option Addr) (k : Nat), e = .returned (.tuple #[.slice to ([] : List Int).length k, .int .i64 1]) ∧ LiesOI w' to []) ∧ Below W.heap.size W w' := fun W => (refRectangle_bad x y u v W hx).mono fun e w' ⟨he, hb⟩ => ⟨⟨none, 0, he, .inl rfl⟩, hb⟩
      by_cases h0 : r = 0
      · subst h0
        exact loopRect_core a b c x y u v 0 0 1 1 fo L.length cap L [] w hL (by simp) lg C1 C2
          (fun W h => wilson_arg a b c x y u v fo cap L W h hr hx (by omega)) (fun W h => refWilson_arg a b c x y u v fo cap L W h hr hx (by omega))
      · exact loopRect_core a b c x y u v 0 0 1 r fo L.length cap L [] w hL (by simp) lg C1 C2
          (fun W h => wilson_bad a b c r x y u v fo cap L W h hr h0 (by omega)) (fun W h => refWilson_bad a b c r x y u v fo cap L W h hr h0 (by omega))

/-! ### The statement of the law LoopRectangles, out of its walk -/
set_option maxRecDepth 100000 in
theorem loopRectangles_lifted (os : Os) (started : os.Started) (H : Type) (enc : TypeId × Value → H) :
    ReturnsInHanded {} Tryz.checked os 5 .any (Rows.loopRectanglesSpec.pre6 enc Tryz.prog Tryz.f5 Rows.loopRectanglesRow.domain false) (Rows.loopRectanglesSpec.post enc Tryz.prog Tryz.f5 false true false false) := by
  refine returnsInHanded_of_change (C := Tryz.checked) own started (by kernel_rfl) Tryz.func5
    (ChangeSpec.witness6 (enc := enc) (C := Tryz.checked) false ⟨#[], #[.agg #[.int .i64 0, .int .i64 0, .int .i64 0, .slice none 0 0], .agg #[.int .i64 0, .int .i64 0, .int .i64 0, .int .i64 0]], []⟩ 8 (by kernel_rfl) (by kernel_rfl) (by kernel_rfl) (by kernel_rfl)) ?_
  intro W base args ds gs before hval0 hW hcnd _
  have hval : ∀ (j : Nat) t v, Tryz.f5.params[j]? = some t → args[j]? = some v → Value.okWide Tryz.prog W .any base t v := hval0
  have hW' := hW
  obtain ⟨p, q, hA0, hV, rfl, hfz, hnd⟩ := hW
  have hA : DataW.TrodAll enc Tryz.prog W 0 (fun _ => true) true Tryz.f5.params.toList args.toList ds p := hA0
  rw [Tryz.params5] at hA hval
  obtain ⟨v0, vs0, d0, ds0, p0, q0, hargs, rfl, rfl, h0, r0⟩ := trodAll_cons hA
  obtain ⟨v1, vs1, d1, ds1, p1, q1, rfl, rfl, rfl, h1, r1⟩ := trodAll_cons r0
  obtain ⟨rfl, rfl, rfl⟩ := trodAll_nil r1
  obtain rfl : args = #[v0, v1] := by cases args; simp_all
  obtain ⟨rfl, rfl⟩ := trodVars_none hV
  have k0 := h0
  have lt0 : ∀ x ∈ p0, x.block < W.heap.size := by obtain ⟨m, hm⟩ := k0; exact DataW.trod_lt m _ _ _ hm
  obtain ⟨x0, y0, z0, ao0, L0, cap0, rfl, hl0, hm0⟩ := open_field (hval 0 25 v0 rfl rfl) h0
  have k1 := h1
  have lt1 : ∀ x ∈ p1, x.block < W.heap.size := by obtain ⟨m, hm⟩ := k1; exact DataW.trod_lt m _ _ _ hm
  obtain ⟨x1, y1, u1, v1, rfl⟩ := open_rect (hval 1 45 v1 rfl rfl) h1
  clear hA0 hval0
  refine (loopRectangles_walk x0 y0 z0 ao0 L0 cap0 x1 y1 u1 v1 W hl0 hm0).mono fun e W' ⟨he, bel⟩ => ?_
  subst he
  exact ⟨_, rfl, _, _, _, [], _, [], hW', trodAll_mk1 (shut_bool Tryz.underlying4 _), (trodAll_cons_mk (Below.trod laidOut (by kernel_rfl) (of_decide_eq_true (by kernel_rfl)) k0 bel lt0) (trodAll_cons_mk (Below.trod laidOut (by kernel_rfl) (of_decide_eq_true (by kernel_rfl)) k1 bel lt1) trodAll_mk0)), rfl, bel.frame _, fun h => by cases h⟩

theorem loopRectangles_jf9 : (Rows.loopRectanglesRow.inPlace == Tryz.prog.inPlace 5) = true := by kernel_rfl
theorem loopRectangles_jf10 : (Rows.loopRectanglesRow.unfollowed == Tryz.prog.unfollowed 5) = true := by kernel_rfl
theorem loopRectangles_jf11 : (Rows.loopRectanglesRow.recurses == Tryz.prog.recurses 5) = true := by kernel_rfl
theorem loopRectangles_jf12 : (Rows.loopRectanglesRow.named == Tryz.prog.varsNamed 5) = true := by kernel_rfl
theorem loopRectangles_facts : joinedFacts Tryz.prog 5 Tryz.f5 Rows.loopRectanglesSpec Rows.loopRectanglesRow = true := by
  unfold joinedFacts
  exact (band (band (band (band (band (band (band (band (band (band (band (band (band (band (band (band (band (band (band (band (band (band (band (band (band (band (band (band (band (band (band (by kernel_rfl) jf1) jf2) (by kernel_rfl)) (by kernel_rfl)) (by kernel_rfl)) jf6) (by kernel_rfl)) jf8) loopRectangles_jf9) loopRectangles_jf10) loopRectangles_jf11) loopRectangles_jf12) (by kernel_rfl)) (by kernel_rfl)) (by kernel_rfl)) (by kernel_rfl)) (by kernel_rfl)) (by kernel_rfl)) (by kernel_rfl)) (by kernel_rfl)) (by kernel_rfl)) (by kernel_rfl)) (by kernel_rfl)) jf24) jf25) jf26) jf27) (by kernel_rfl)) (by kernel_rfl)) (by kernel_rfl)) (by kernel_rfl))

theorem loopRectangles_over : Rows.loopRectanglesRow.holds Tryz.pinned (OpenSpec.ofChange Rows.loopRectanglesSpec) :=
  OpenClaim.holds_of_wide 5 Tryz.f5 rfl rfl rfl rfl rfl rfl rfl ⟨rfl, rfl, rfl, rfl, rfl⟩ rfl rfl rfl rfl rfl (by kernel_rfl) Tryz.func5 loopRectangles_facts
    (of_decide_eq_true (by kernel_rfl)) (by unfold Func.isWrapper; first | (rw [if_pos (by decide +kernel)]; kernel_rfl) | (rw [if_neg (by decide +kernel)]; exact ⟨rfl, rfl⟩))
    (fun os started H enc _ => loopRectangles_lifted os started H enc)

theorem loopRectangles_holds : Rows.LoopRectanglesSaid := loopRectangles_over
#print axioms loopRectangles_holds

end Go.Proofs.YtjidbajcnomceaaGreat
