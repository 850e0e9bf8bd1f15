/- Where a link leads, and whether a list has a number, as the program and the document's answers find it.
Conditions: the lists lie in memory as it is written at each theorem. -/
import Derived.Test.YtkgihmhehkaocaaGreatRAlongC
import Derived.Test.YtkgihmhehkaocaaGreatRWlkA
import Derived.Test.YtkgihmhehkaocaaGreatRInts
import Derived.Test.YtkgihmhehkaocaaGreatRLBox
import Derived.Maps.AppendAt
import Derived.Test.YtkgihmhehkaocaaGreatRLinksC
namespace Go.Proofs.YtkgihmhehkaocaaGreat
set_option linter.unusedVariables false
set_option linter.unusedSimpArgs false
set_option maxRecDepth 1000000
open Go.RowKit
open Um Tm

/-- the site to which link k leads -/
def ahd (a b c : Int) (k : Nat) : Int := nx a b c ((k / 3 : Nat) : Int) (((k % 3 : Nat) : Int) + 1)
set_option maxHeartbeats 1600000 in
theorem ends_ok (a b c : Int) (k : Nat) (w : World) (hz : Sz a b c) (hk : (k : Int) < 3 * (a * b * c)) : Calls Tryz.prog 47 #[.agg #[.int .i64 a, .int .i64 b, .int .i64 c], .int .i64 k] w fun e w' => e = .returned (.tuple #[.int .i64 ((k / 3 : Nat) : Int), .int .i64 (ahd a b c k), .int .i64 0]) ∧ Below w.heap.size w w' := by
  obtain ⟨-, -, p3, -⟩ := mul_rng hz.a1 hz.a4 hz.b1 hz.b4 hz.c1 hz.c4
  have hp := hz.p
  have c1 := fun W : World => nextO_any a b c ((k / 3 : Nat) : Int) (((k % 3 : Nat) : Int) + 1) (ahd a b c k) 0 W (.inr (.inr (.inr ⟨hz, by omega, by omega, ⟨by omega, by omega, by omega⟩, rfl, rfl⟩)))
  have e1 : ((k : Int)).tdiv 3 = ((k / 3 : Nat) : Int) := by rw [Int.tdiv_eq_ediv_of_nonneg (by omega)]; omega
  have e2 : ((k : Int)).tmod 3 = ((k % 3 : Nat) : Int) := by rw [Int.tmod_eq_emod_of_nonneg (by omega)]; omega
  have r1 : ((k % 3 : Nat) : Int) ≤ 2 := by omega
  have r2 : (0 : Int) ≤ ((k % 3 : Nat) : Int) := by omega
  have r3 : ((k / 3 : Nat) : Int) ≤ 16 := by omega
  have r4 : (0 : Int) ≤ ((k / 3 : Nat) : Int) := by omega
  have r5 : (k : Int) ≤ 48 := by omega
  generalize ahd a b c k = y at *
  generalize ((k / 3 : Nat) : Int) = s at *
  generalize ((k % 3 : Nat) : Int) = t at *
  clear hz hp p3 hk
  generalize (k : Int) = kk at *
  go_enter Tryz.func47, Tryz.ntmps47
  go_wp2_with (fail)
  refine (c1 _).mono ?_
  rintro e w1 ⟨rfl, hw1⟩
  go_wp2
  go_ret3
  exact ⟨rfl, bel1 hw1⟩
/-- the place of a number in a list, or something below 0 -/
theorem not_mem_of {l : List Int} {t : Int} (h : ∀ (i : Nat) (x : Int), i < l.length → l[i]? = some x → x ≠ t) : t ∉ l := fun hm => by
  obtain ⟨i, hi, he⟩ := List.getElem_of_mem hm
  exact h i _ hi (List.getElem?_eq_getElem hi) he
theorem not_next {l : List Int} {t x : Int} {k : Nat} (hx : l[k]? = some x) (hne : x ≠ t) (h : ∀ (i : Nat) (x : Int), i < k → l[i]? = some x → x ≠ t) : ∀ (i : Nat) (x : Int), i < k + 1 → l[i]? = some x → x ≠ t := fun i y hi hy => by
  by_cases he : i < k
  · exact h i y he hy
  · obtain rfl : i = k := by omega
    have := hx.symm.trans hy
    simp only [Option.some.injEq] at this
    rw [← this]
    exact hne
set_option maxHeartbeats 800000 in
theorem index_any (b off cap : Nat) (t : Int) (l : List Int) (w : World) (h : LiesI w b off l) (hn : l.length ≤ 1000000) : Calls Tryz.prog 82 #[.slice (some ⟨b, off, none⟩) l.length cap, .int .i64 t] w fun e w' => (∃ r : Int, e = .returned (.int .i64 r) ∧ decide (0 ≤ r) = decide (t ∈ l)) ∧ Below w.heap.size w w' := by
  have H := Lib.hid h
  clear h
  go_enter Tryz.func82, Tryz.ntmps82
  go_wp2
  go_loopw [5, 8] (fun _ q wr => ∃ k : Nat, k ≤ l.length ∧ q = .int .i64 k ∧ Hid (∀ (i : Nat) (x : Int), i < k → l[i]? = some x → x ≠ t) ∧ Below w.heap.size w wr) (fun _ q _ => l.length - (intOf q).toNat)
  case atStart => exact ⟨0, by omega, rfl, Lib.hid (fun i x h => by omega), Below.refl _ _⟩
  case round =>
    obtain ⟨k, hk, rfl, hall, hb⟩ := hrel
    by_cases hlt : k < l.length
    · have hx : l[k]? = some l[k] := List.getElem?_eq_getElem hlt
      have x1 := H.out.later hb k _ hx
      have hm : l[k] ∈ l := List.getElem_mem hlt
      have hnx := fun hne => not_next hx hne hall.out
      generalize l[k] = x at *
      by_cases he : t = x
      · subst he
        have HM := Lib.hid hm
        clear hm hnx hx hall
        go_wp2
        go_ret
        exact ⟨⟨_, rfl, by simp [HM.out]⟩, hb⟩
      · have q1 : (t == x) = false := by simpa using he
        have hnext := Lib.hid (hnx (fun h => he h.symm))
        clear hm hnx hx hall he
        go_wp2
        exact ⟨⟨k + 1, by omega, by go_num, hnext, hb⟩, by simp [intOf]; omega⟩
    · obtain rfl : k = l.length := by omega
      have hno := not_mem_of hall.out
      have HN := Lib.hid hno
      clear hno hall
      go_wp2
      go_ret
      exact ⟨⟨_, rfl, by simp [HN.out]⟩, hb⟩
set_option maxHeartbeats 400000 in
theorem contains_any (b off cap : Nat) (t : Int) (l : List Int) (w : World) (h : LiesI w b off l) (hn : l.length ≤ 1000000) : Calls Tryz.prog 48 #[.slice (some ⟨b, off, none⟩) l.length cap, .int .i64 t] w fun e w' => e = .returned (.bool (decide (t ∈ l))) ∧ Below w.heap.size w w' := by
  have c1 := fun (W : World) (h : LiesI W b off l) => index_any b off cap t l W h hn
  have H := Lib.hid h
  clear h
  go_enter Tryz.func48, Tryz.ntmps48
  go_wp2_with (fail)
  refine (c1 _ H.out).mono ?_
  rintro e w1 ⟨⟨r, rfl, hr⟩, hw1⟩
  have HR := Lib.hid hr
  clear hr
  go_wp2
  go_ret
  exact ⟨by first | (rw [← HR.out]; rfl) | simp [← HR.out], hw1⟩
end Go.Proofs.YtkgihmhehkaocaaGreat

/- The tree of a torus: which links it has, and that every site is reached.
Conditions: none. -/
namespace Go.Proofs.YtkgihmhehkaocaaGreat
set_option linter.unusedVariables false
set_option linter.unusedSimpArgs false
set_option maxRecDepth 1000000
open Go.RowKit
open Um Tm

/-- the sites that are reached and the links of the tree, with one link more -/
def trStep (a b c : Int) (s : List Int × List Int) (k : Nat) : List Int × List Int := if ahd a b c k ∈ s.1 then s else (s.1 ++ [ahd a b c k], s.2 ++ [(k : Int)])
/-- the same after n links that have been looked at -/
def trAt (a b c : Int) : Nat → List Int × List Int
  | 0 => ([0], [])
  | n + 1 => trStep a b c (trAt a b c n) (3 * ((trAt a b c n).1.getD (n / 3) 0).toNat + n % 3)
def trGo (a b c : Int) : Nat → Nat → List Int × List Int → Bool
  | 0, _, s => decide ((s.1.length : Int) = a * b * c)
  | f + 1, n, s => decide (n / 3 < s.1.length) && s.1.all (fun x => decide (0 ≤ x) && decide (x < a * b * c)) && trGo a b c f (n + 1) (trStep a b c s (3 * (s.1.getD (n / 3) 0).toNat + n % 3))
def trAll : Bool := (List.range 4).all fun a => (List.range 4).all fun b => (List.range 4).all fun c => decide (16 < (a + 1) * (b + 1) * (c + 1)) || trGo (a + 1) (b + 1) (c + 1) (3 * ((a + 1) * (b + 1) * (c + 1))) 0 ([0], [])
theorem trAll_true : trAll = true := by decide +kernel
theorem trGo_spec {a b c : Int} : ∀ (f n : Nat), trGo a b c f n (trAt a b c n) = true → (∀ m : Nat, n ≤ m → m < n + f → m / 3 < (trAt a b c m).1.length ∧ ∀ x ∈ (trAt a b c m).1, 0 ≤ x ∧ x < a * b * c) ∧ ((trAt a b c (n + f)).1.length : Int) = a * b * c := by
  intro f
  induction f with
  | zero =>
    intro n h
    refine ⟨fun m h1 h2 => by omega, ?_⟩
    simpa [trGo] using h
  | succ f ih =>
    intro n h
    simp only [trGo, Bool.and_eq_true, decide_eq_true_eq, List.all_eq_true] at h
    obtain ⟨⟨h1, h2⟩, h3⟩ := h
    obtain ⟨i1, i2⟩ := ih (n + 1) h3
    refine ⟨fun m hm hlt => ?_, by rw [show n + (f + 1) = n + 1 + f by omega]; exact i2⟩
    by_cases he : m = n
    · subst he
      exact ⟨h1, fun x hx => by simpa using h2 x hx⟩
    · exact i1 m (by omega) (by omega)
theorem tr_good {a b c : Int} (hz : Sz a b c) : ∃ N : Nat, (N : Int) = a * b * c ∧ (∀ m : Nat, m < 3 * N → m / 3 < (trAt a b c m).1.length ∧ ∀ x ∈ (trAt a b c m).1, 0 ≤ x ∧ x < a * b * c) ∧ ((trAt a b c (3 * N)).1.length : Int) = a * b * c := by
  obtain ⟨a1, a4, b1, b4, c1, c4, hp⟩ := hz
  obtain ⟨A, rfl⟩ : ∃ A : Nat, a = ((A : Int) + 1) := ⟨(a - 1).toNat, by omega⟩
  obtain ⟨B, rfl⟩ : ∃ B : Nat, b = ((B : Int) + 1) := ⟨(b - 1).toNat, by omega⟩
  obtain ⟨C, rfl⟩ : ∃ C : Nat, c = ((C : Int) + 1) := ⟨(c - 1).toNat, by omega⟩
  have h := trAll_true
  simp only [trAll, List.all_eq_true, List.mem_range] at h
  have h2 := h A (by omega) B (by omega) C (by omega)
  have e : (((A + 1) * (B + 1) * (C + 1) : Nat) : Int) = ((A : Int) + 1) * ((B : Int) + 1) * ((C : Int) + 1) := by simp
  have h3 : decide (16 < (A + 1) * (B + 1) * (C + 1)) = false := by
    rw [decide_eq_false_iff_not]
    omega
  rw [h3, Bool.false_or] at h2
  refine ⟨(A + 1) * (B + 1) * (C + 1), e, ?_⟩
  have := trGo_spec (a := (A : Int) + 1) (b := (B : Int) + 1) (c := (C : Int) + 1) _ 0 h2
  simpa using this
theorem trStep_new {a b c : Int} {s : List Int × List Int} {k : Nat} (h : ahd a b c k ∉ s.1) : trStep a b c s k = (s.1 ++ [ahd a b c k], s.2 ++ [(k : Int)]) := if_neg h
theorem trStep_old {a b c : Int} {s : List Int × List Int} {k : Nat} (h : ahd a b c k ∈ s.1) : trStep a b c s k = s := if_pos h
end Go.Proofs.YtkgihmhehkaocaaGreat

/- One link that is looked at for the tree, as the program's closure does it.
Conditions: the lists are rows of the call's own, as TS says. -/
namespace Go.Proofs.YtkgihmhehkaocaaGreat
set_option linter.unusedVariables false
set_option linter.unusedSimpArgs false
set_option maxRecDepth 1000000
open Go.RowKit
open Um Tm

/-- the sizes, the sites that are reached and the tree's links, each in a variable of its own -/
structure TS (w : World) (B sb rb kb : Nat) (a b c : Int) (v1 v2 : Value) (s : List Int × List Int) : Prop where
  z : C3 w sb (.int .i64 a) (.int .i64 b) (.int .i64 c)
  r : C1 w rb v1
  k : C1 w kb v2
  o1 : w.ownsRow B 3 1 v1 s.1.length (s.1.map vi)
  o2 : w.ownsRow B 3 1 v2 s.2.length (s.2.map vi)
  d : ∀ j, v1.ownBlock = some j → v2.ownBlock ≠ some j
  f1 : ∀ j, v1.ownBlock = some j → j ≠ sb ∧ j ≠ rb ∧ j ≠ kb
  f2 : ∀ j, v2.ownBlock = some j → j ≠ sb ∧ j ≠ rb ∧ j ≠ kb
  n1 : rb ≠ kb
  n2 : sb ≠ rb
  n3 : sb ≠ kb
theorem TS.later {w w1 : World} {B sb rb kb : Nat} {a b c : Int} {v1 v2 : Value} {s : List Int × List Int} (h : TS w B sb rb kb a b c v1 v2 s) (hb : Below w.heap.size w w1) : TS w1 B sb rb kb a b c v1 v2 s :=
  ⟨h.z.later hb, h.r.later hb, h.k.later hb, owned_later h.o1 hb, owned_later h.o2 hb, h.d, h.f1, h.f2, h.n1, h.n2, h.n3⟩
set_option maxHeartbeats 3200000 in
theorem look_old (a b c : Int) (B sb rb kb k : Nat) (v1 v2 : Value) (s : List Int × List Int) (w : World) (hz : Sz a b c) (hk : (k : Int) < 3 * (a * b * c)) (h : TS w B sb rb kb a b c v1 v2 s) (h1 : 0 < s.1.length) (h2 : s.1.length ≤ 1000) (hm : ahd a b c k ∈ s.1) : Calls Tryz.prog 46 #[.int .i64 (k : Int), .pointer (some ⟨sb, 0, none⟩), .pointer (some ⟨rb, 0, none⟩), .pointer (some ⟨kb, 0, none⟩)] w fun e w' => e = .returned (.int .i64 0) ∧ Below w.heap.size w w' := by
  have c1 := fun W : World => ends_ok a b c k W hz hk
  obtain ⟨g, cap, rfl, hg⟩ := owned_some h.o1 h1
  have hl := owned_liesI h.o1
  have c2 : ∀ W : World, LiesI W g 0 s.1 → Calls Tryz.prog 48 #[.slice (some ⟨g, 0, none⟩) s.1.length cap, .int .i64 (ahd a b c k)] W fun e w' => e = .returned (.bool true) ∧ Below W.heap.size W w' := fun W hl => by
    have := contains_any g 0 cap (ahd a b c k) s.1 W hl (by omega)
    simpa [hm] using this
  have H := Lib.hid h
  have HL := Lib.hid hl
  clear hl h hm hz hk
  obtain ⟨x0, x1, x2, xf, xl⟩ := H.out.z
  generalize ahd a b c k = y at *
  generalize ((k / 3 : Nat) : Int) = q at *
  go_enter Tryz.func46, Tryz.ntmps46
  go_wp2_with (fail)
  refine (c1 _).mono ?_
  rintro e w1 ⟨rfl, hw1⟩
  obtain ⟨y0, yf, yl⟩ := H.out.r.later hw1
  go_wp2_with (fail)
  refine (c2 _ (HL.out.later hw1)).mono ?_
  rintro e w2 ⟨rfl, hw2⟩
  go_wp2
  go_ret
  exact ⟨rfl, by repeat (first | (with_reducible exact Below.refl _ _) | (with_reducible refine Below.setCell ?_ ?_ _) | (with_reducible refine Below.drew ?_) | (with_reducible refine Below.alloc ?_ ?_ _) | (with_reducible refine Below.trans ?_ (Below.mono hw2 ?_)) | (with_reducible refine Below.trans ?_ (Below.mono hw1 ?_)) | (with_reducible exact hw2.size) | (with_reducible exact hw1.size) | omega | (simp <;> omega) | (simp <;> (have s := hw2.size; omega)) | (simp <;> (have s := hw1.size; omega)) | (have s0 := hw2.size; (try simp at s0); have s1 := hw1.size; (try simp at s1); (try simp); omega))⟩
theorem C1.far {w w1 : World} {b : Nat} {v : Value} {row : Option Nat} (h : C1 w b v) (hg : w.grownBy w1 row) (hne : some b ≠ row) : C1 w1 b v :=
  ⟨hg.cell h.c0 hne, fun j => (World.frozen?_of_block (a := ⟨b, j, none⟩) (hg.block b h.lt hne)).trans (h.free j), Nat.lt_of_lt_of_le h.lt hg.size⟩
theorem C3.farG {w w1 : World} {b : Nat} {v0 v1 v2 : Value} {row : Option Nat} (h : C3 w b v0 v1 v2) (hg : w.grownBy w1 row) (hne : some b ≠ row) : C3 w1 b v0 v1 v2 :=
  ⟨hg.cell h.c0 hne, hg.cell h.c1 hne, hg.cell h.c2 hne, fun j => (World.frozen?_of_block (a := ⟨b, j, none⟩) (hg.block b h.lt hne)).trans (h.free j), Nat.lt_of_lt_of_le h.lt hg.size⟩
theorem C1.set0 {w : World} {b : Nat} {v : Value} (h : C1 w b v) (u : Value) : C1 (w.setCell ⟨b, 0, none⟩ u) b u :=
  ⟨by simp [go_sem, h.c0, h.lt], fun j => by simpa using h.free j, by simpa using h.lt⟩
theorem none_or {o : Option Nat} {b : Nat} (h : ∀ j, o = some j → j ≠ b) : o = none ∨ o ≠ some b := by
  cases o with
  | none => exact .inl rfl
  | some j => exact .inr fun e => h j rfl (Option.some.inj e)
theorem some_ne {o : Option Nat} {b : Nat} (h : ∀ j, o = some j → j ≠ b) : some b ≠ o := fun e => h b e.symm rfl
/-- a site more that is reached -/
theorem TS.push1 {w w3 : World} {B sb rb kb : Nat} {a b c y : Int} {v1 v2 v1' : Value} {s : List Int × List Int} (h : TS w B sb rb kb a b c v1 v2 s) (hg : w.grownBy w3 v1.ownBlock)
    (ho : w3.ownsRow B 3 1 v1' (s.1 ++ [y]).length ((s.1 ++ [y]).map vi)) (hat : v1'.ownBlock = v1.ownBlock ∨ v1'.ownBlock = some w.heap.size) :
    TS (w3.setCell ⟨rb, 0, none⟩ v1') B sb rb kb a b c v1' v2 (s.1 ++ [y], s.2) := by
  have G := grown_setCell w3 ⟨rb, 0, none⟩ v1'
  have f1 : ∀ j, v1'.ownBlock = some j → j ≠ sb ∧ j ≠ rb ∧ j ≠ kb := fun j hj => by
    rcases hat with e | e
    · exact h.f1 j (e.symm.trans hj)
    · have := Option.some.inj (e.symm.trans hj)
      have h1 := h.z.lt
      have h2 := h.r.lt
      have h3 := h.k.lt
      omega
  have o2 := h.o2.kept hg (by
    cases h2 : v2.ownBlock with
    | none => exact .inl rfl
    | some j => exact .inr fun e => h.d j e.symm h2)
  refine ⟨(h.z.farG hg (some_ne fun j hj => (h.f1 j hj).1)).farG G (fun e => h.n2 (Option.some.inj e)), (h.r.far hg (some_ne fun j hj => (h.f1 j hj).2.1)).set0 v1', (h.k.far hg (some_ne fun j hj => (h.f1 j hj).2.2)).far G (fun e => h.n1 (Option.some.inj e).symm), ho.kept G (none_or fun j hj => (f1 j hj).2.1), o2.kept G (none_or fun j hj => (h.f2 j hj).2.1), fun j hj e => ?_, f1, h.f2, h.n1, h.n2, h.n3⟩
  rcases hat with e1 | e1
  · exact h.d j (e1.symm.trans hj) e
  · have := Option.some.inj (e1.symm.trans hj)
    have := (h.o2.lt j e).2
    omega
/-- a link more in the tree -/
theorem TS.push2 {w w3 : World} {B sb rb kb : Nat} {a b c y : Int} {v1 v2 v2' : Value} {s : List Int × List Int} (h : TS w B sb rb kb a b c v1 v2 s) (hg : w.grownBy w3 v2.ownBlock)
    (ho : w3.ownsRow B 3 1 v2' (s.2 ++ [y]).length ((s.2 ++ [y]).map vi)) (hat : v2'.ownBlock = v2.ownBlock ∨ v2'.ownBlock = some w.heap.size) :
    TS (w3.setCell ⟨kb, 0, none⟩ v2') B sb rb kb a b c v1 v2' (s.1, s.2 ++ [y]) := by
  have G := grown_setCell w3 ⟨kb, 0, none⟩ v2'
  have f2 : ∀ j, v2'.ownBlock = some j → j ≠ sb ∧ j ≠ rb ∧ j ≠ kb := fun j hj => by
    rcases hat with e | e
    · exact h.f2 j (e.symm.trans hj)
    · have := Option.some.inj (e.symm.trans hj)
      have h1 := h.z.lt
      have h2 := h.r.lt
      have h3 := h.k.lt
      omega
  have o1 := h.o1.kept hg (by
    cases h1 : v1.ownBlock with
    | none => exact .inl rfl
    | some j => exact .inr fun e => h.d j h1 e.symm)
  refine ⟨(h.z.farG hg (some_ne fun j hj => (h.f2 j hj).1)).farG G (fun e => h.n3 (Option.some.inj e)), (h.r.far hg (some_ne fun j hj => (h.f2 j hj).2.1)).far G (fun e => h.n1 (Option.some.inj e)), (h.k.far hg (some_ne fun j hj => (h.f2 j hj).2.2)).set0 v2', o1.kept G (none_or fun j hj => (h.f1 j hj).2.2), ho.kept G (none_or fun j hj => (f2 j hj).2.2), fun j hj e => ?_, h.f1, f2, h.n1, h.n2, h.n3⟩
  rcases hat with e1 | e1
  · exact h.d j hj (e1.symm.trans e)
  · have := Option.some.inj (e1.symm.trans e)
    have := (h.o1.lt j hj).2
    omega
theorem push1_of {w w3 : World} {B sb rb kb : Nat} {a b c y : Int} {v1 v2 v1' : Value} {s : List Int × List Int} (h : TS w B sb rb kb a b c v1 v2 s) (hg : w.grownBy w3 v1.ownBlock)
    (ho : w3.ownsRow B 3 1 v1' (s.1.length + 1) (s.1.map vi ++ [vi y])) (hat : v1'.ownBlock = v1.ownBlock ∨ v1'.ownBlock = some w.heap.size) :
    TS (w3.setCell ⟨rb, 0, none⟩ v1') B sb rb kb a b c v1' v2 (s.1 ++ [y], s.2) := h.push1 hg (by rw [List.length_append, List.map_append]; exact ho) hat
theorem push2_of {w w3 : World} {B sb rb kb : Nat} {a b c y : Int} {v1 v2 v2' : Value} {s : List Int × List Int} (h : TS w B sb rb kb a b c v1 v2 s) (hg : w.grownBy w3 v2.ownBlock)
    (ho : w3.ownsRow B 3 1 v2' (s.2.length + 1) (s.2.map vi ++ [vi y])) (hat : v2'.ownBlock = v2.ownBlock ∨ v2'.ownBlock = some w.heap.size) :
    TS (w3.setCell ⟨kb, 0, none⟩ v2') B sb rb kb a b c v1 v2' (s.1, s.2 ++ [y]) := h.push2 hg (by rw [List.length_append, List.map_append]; exact ho) hat
theorem bw_grown {B0 : Nat} {w w2 w3 : World} {o : Obj} {row : Option Nat} (h : Below B0 w w2) (hg : (w2.alloc o).grownBy w3 row) (h0 : B0 ≤ w.heap.size) (h1 : w.heap.size ≤ w2.heap.size) (hr : ∀ j, row = some j → B0 ≤ j) : Below B0 w w3 :=
  (h.alloc (Nat.le_trans h0 h1) o).grown hg (by simp; omega) (fun j hj => hr j hj)
set_option maxHeartbeats 3200000 in
theorem look_new (a b c : Int) (B B0 sb rb kb k : Nat) (v1 v2 : Value) (s : List Int × List Int) (w : World) (hz : Sz a b c) (hk : (k : Int) < 3 * (a * b * c)) (h : TS w B sb rb kb a b c v1 v2 s) (h1 : 0 < s.1.length) (h2 : s.1.length ≤ 1000) (h3 : s.2.length ≤ 1000) (hm : ahd a b c k ∉ s.1) (b1 : B0 ≤ rb) (b2 : B0 ≤ kb) (b3 : B0 ≤ B) (b4 : B ≤ w.heap.size) : Calls Tryz.prog 46 #[.int .i64 (k : Int), .pointer (some ⟨sb, 0, none⟩), .pointer (some ⟨rb, 0, none⟩), .pointer (some ⟨kb, 0, none⟩)] w fun e w' => (e = .returned (.int .i64 0) ∧ ∃ v1' v2', TS w' B sb rb kb a b c v1' v2' (s.1 ++ [ahd a b c k], s.2 ++ [(k : Int)])) ∧ Below B0 w w' := by
  have c1 := fun W : World => ends_ok a b c k W hz hk
  obtain ⟨g, cap, rfl, hg⟩ := owned_some h.o1 h1
  obtain ⟨a2, cap2, rfl, -⟩ := owned_liesOI h.o2
  have hl := owned_liesI h.o1
  have c2 : ∀ W : World, LiesI W g 0 s.1 → Calls Tryz.prog 48 #[.slice (some ⟨g, 0, none⟩) s.1.length cap, .int .i64 (ahd a b c k)] W fun e w' => e = .returned (.bool false) ∧ Below W.heap.size W w' := fun W hl => by
    have := contains_any g 0 cap (ahd a b c k) s.1 W hl (by omega)
    simpa [hm] using this
  obtain ⟨i0, hi, hz0, hz1, hz2⟩ := info_parts infoI
  have H := Lib.hid h
  have HL := Lib.hid hl
  obtain ⟨x0, x1, x2, xf, xl⟩ := h.z
  have rl := h.r.lt
  have kl := h.k.lt
  clear hl h hm hz hk
  generalize ahd a b c k = y at *
  generalize ((k / 3 : Nat) : Int) = q at *
  generalize (k : Int) = kk at *
  go_enter Tryz.func46, Tryz.ntmps46
  go_wp2_with (fail)
  refine (c1 _).mono ?_
  rintro e w1 ⟨rfl, hw1⟩
  obtain ⟨y0, yf, yl⟩ := H.out.r.later hw1
  go_wp2_with (fail)
  refine (c2 _ (HL.out.later hw1)).mono ?_
  rintro e w2 ⟨rfl, hw2⟩
  have hw := hw1.trans (hw2.mono hw1.size)
  have s2 := hw.size
  have H2 := Lib.hid (H.out.later hw)
  have bw : Below B0 w w2 := hw.mono (by omega)
  clear c1 c2 hw1 hw2 hw y0 yf yl x0 x1 x2 xf xl HL H
  obtain ⟨y0, yf, yl⟩ := H2.out.r
  have H3 := Lib.hid (H2.out.later (ba1 (o := .cells #[.int .i64 y] 3)))
  go_wp2_with (first
    | (at_builtin; refine wpList_append_own_at _ rfl (.tmp 23) (.tmp 25) 51 rfl B 3 i0 _ 1 8 Tryz.underlying51 hi hz0 hz1 hz2 rfl (by decide) (.slice (some ⟨g, 0, none⟩) s.1.length cap) s.1.length (s.1.map vi) rfl H3.out.o1 ⟨w2.heap.size, 0, none⟩ 1 1 [vi y] rfl rfl (one_cell (by simp [go_sem, vi])) (one_one _) (by unfold maxLen; omega) (by omega) (by simp <;> omega) ?_; intro v1' w3 hown3 hgrow3 _ hat3; obtain ⟨g3, cap3, rfl, -⟩ := owned_some hown3 (by omega); have HP1 := Lib.hid (push1_of H3.out hgrow3 hown3 hat3); obtain ⟨z0, zf, zl⟩ := H3.out.r.far hgrow3 (some_ne fun j hj => (H3.out.f1 j hj).2.1); have bw3 := bw_grown bw hgrow3 (Nat.le_trans b3 b4) s2 (fun j hj => Nat.le_trans b3 (owned_from H3.out.o1 j hj)); have s3 := hgrow3.size; have H4 := Lib.hid (HP1.out.later (ba1 (o := .cells #[.int .i64 kk] 3))); obtain ⟨u0, uf, ul⟩ := HP1.out.k)
    | (at_builtin; refine wpList_append_own_at _ rfl (.tmp 27) (.tmp 29) 51 rfl B 3 i0 _ 1 8 Tryz.underlying51 hi hz0 hz1 hz2 rfl (by decide) (.slice a2 s.2.length cap2) s.2.length (s.2.map vi) rfl H4.out.o2 ⟨w3.heap.size, 0, none⟩ 1 1 [vi kk] rfl (by simp) (one_cell (by simp [go_sem, vi])) (one_one _) (by unfold maxLen; omega) (by omega) (by simp at s3; simp <;> omega) ?_; intro v2' w5 hown5 hgrow5 _ hat5; obtain ⟨g5, cap5, rfl, -⟩ := owned_some hown5 (by omega); have HP2 := Lib.hid (push2_of H4.out hgrow5 hown5 hat5); obtain ⟨p0, pf, pl⟩ := H4.out.k.far hgrow5 (some_ne fun j hj => (H4.out.f2 j hj).2.2)))
  go_ret
  refine ⟨⟨rfl, _, _, HP2.out⟩, ?_⟩
  have w4 := bw3.setCell (p := ⟨rb, 0, none⟩) b1 (.slice (some ⟨g3, 0, none⟩) (s.1.length + 1) cap3)
  exact (bw_grown w4 hgrow5 (Nat.le_trans b3 b4) (by simp at s3 ⊢; omega) (fun j hj => Nat.le_trans b3 (owned_from H4.out.o2 j hj))).setCell (p := ⟨kb, 0, none⟩) b2 _
theorem look_any (a b c : Int) (B B0 sb rb kb k : Nat) (v1 v2 : Value) (s : List Int × List Int) (w : World) (hz : Sz a b c) (hk : (k : Int) < 3 * (a * b * c)) (h : TS w B sb rb kb a b c v1 v2 s) (h1 : 0 < s.1.length) (h2 : s.1.length ≤ 1000) (h3 : s.2.length ≤ 1000) (b1 : B0 ≤ rb) (b2 : B0 ≤ kb) (b3 : B0 ≤ B) (b4 : B ≤ w.heap.size) : Calls Tryz.prog 46 #[.int .i64 (k : Int), .pointer (some ⟨sb, 0, none⟩), .pointer (some ⟨rb, 0, none⟩), .pointer (some ⟨kb, 0, none⟩)] w fun e w' => (e = .returned (.int .i64 0) ∧ ∃ v1' v2', TS w' B sb rb kb a b c v1' v2' (trStep a b c s k)) ∧ Below B0 w w' := by
  by_cases hm : ahd a b c k ∈ s.1
  · refine (look_old a b c B sb rb kb k v1 v2 s w hz hk h h1 h2 hm).mono fun e w' ⟨he, hb⟩ => ⟨⟨he, v1, v2, ?_⟩, hb.mono (by omega)⟩
    rw [trStep_old hm]
    exact h.later hb
  · have := look_new a b c B B0 sb rb kb k v1 v2 s w hz hk h h1 h2 h3 hm b1 b2 b3 b4
    rw [← trStep_new hm] at this
    exact this
end Go.Proofs.YtkgihmhehkaocaaGreat

/- The tree of a torus, as the program makes it (written by mkGg.py).
Conditions: none. -/
namespace Go.Proofs.YtkgihmhehkaocaaGreat
set_option linter.unusedVariables false
set_option linter.unusedSimpArgs false
set_option maxRecDepth 1000000
open Go.RowKit
open Um Tm

theorem tr_len (a b c : Int) (n : Nat) : (trAt a b c n).1.length ≤ n + 1 ∧ (trAt a b c n).2.length ≤ n := by
  induction n with
  | zero => exact ⟨by simp [trAt], by simp [trAt]⟩
  | succ n ih =>
    rw [trAt]
    unfold trStep
    split
    · exact ⟨by omega, by omega⟩
    · simp; omega
set_option maxHeartbeats 6400000 in
theorem gaTree_ok (a b c : Int) (w : World) (hz : Sz a b c) (N : Nat) (hN : (N : Int) = a * b * c) : Calls Tryz.prog 22 #[.agg #[.int .i64 a, .int .i64 b, .int .i64 c]] w fun e w' => (∃ ao k, e = .returned (.tuple #[.slice ao (trAt a b c (3 * N)).2.length k, .int .i64 0]) ∧ LiesOI w' ao (trAt a b c (3 * N)).2) ∧ Below w.heap.size w w' := by
  obtain ⟨N', hN', hgo, hfin⟩ := tr_good hz
  obtain rfl : N' = N := by omega
  have cS := fun (W : World) => sites_any a b c (N' : Int) 0 W (.inr ⟨hz, hN', rfl⟩)
  obtain ⟨-, -, p3, -⟩ := mul_rng hz.a1 hz.a4 hz.b1 hz.b4 hz.c1 hz.c4
  have hp := hz.p
  have n16 : N' ≤ 16 := by omega
  have hgo' : ∀ m : Nat, m < 3 * N' → m / 3 < (trAt a b c m).1.length ∧ ∀ x ∈ (trAt a b c m).1, 0 ≤ x ∧ x < (N' : Int) := fun m hm => by rw [hN']; exact hgo m hm
  have HGo := Lib.hid hgo'
  have HZ := Lib.hid hz
  have HN := Lib.hid hN'
  clear hgo hgo' hz hN hN' hfin p3 hp
  go_enter Tryz.func22, Tryz.ntmps22
  have z0 : C3 (w.alloc (.cells #[.int .i64 a, .int .i64 b, .int .i64 c] 22)) w.heap.size (.int .i64 a) (.int .i64 b) (.int .i64 c) := C3.n1
  have Z0 := Lib.hid z0
  clear z0
  go_wp2_with (fail)
  refine (cS _).mono ?_
  rintro e w1 ⟨rfl, hw1⟩
  have Z1 := Z0.out.later hw1
  have s1 := hw1.size
  simp at s1
  have b1 : Below w.heap.size w w1 := by repeat (first | (with_reducible exact Below.refl _ _) | (with_reducible refine Below.setCell ?_ ?_ _) | (with_reducible refine Below.drew ?_) | (with_reducible refine Below.alloc ?_ ?_ _) | (with_reducible refine Below.trans ?_ (Below.mono hw1 ?_)) | (with_reducible exact hw1.size) | omega | (simp <;> omega) | (simp <;> (have s := hw1.size; omega)) | (have s0 := hw1.size; (try simp at s0); (try simp); omega))
  clear cS hw1
  go_wp2
  have T0 : TS (((w1.alloc (.cells #[.slice none 0 0] 51)).alloc (.cells #[.int .i64 0] 3)).alloc (.cells #[.slice (some ⟨w1.heap.size + 1, 0, none⟩) 1 1] 51)) (w1.heap.size + 1) w.heap.size (w1.heap.size + 1 + 1) w1.heap.size a b c (.slice (some ⟨w1.heap.size + 1, 0, none⟩) 1 1) (.slice none 0 0) (trAt a b c (3 * 0)) := by
    refine ⟨Z1.later (by repeat (first | (with_reducible exact Below.refl _ _) | (with_reducible refine Below.setCell ?_ ?_ _) | (with_reducible refine Below.drew ?_) | (with_reducible refine Below.alloc ?_ ?_ _) | omega | (simp <;> omega))), ⟨by simp [go_sem], fun j => by simp [go_sem], by simp⟩, ⟨by simp [go_sem], fun j => by simp [go_sem], by simp <;> omega⟩, ?_, World.ownsRow_nil _ _ _ _, fun j _ h => by simp [Value.ownBlock] at h, fun j h => ?_, fun j h => by simp [Value.ownBlock] at h, by omega, by omega, by omega⟩
    · have := World.ownsRow_lit (base := (w1.alloc (.cells #[.slice none 0 0] 51)).heap.size) (e := 3) (size := 1) (w1.alloc (.cells #[.slice none 0 0] 51)) #[.int .i64 0] 1 (Nat.le_refl _) (by unfold maxLen; omega) (by simp)
      have := this.alloc (.cells #[.slice (some ⟨w1.heap.size + 1, 0, none⟩) 1 1] 51)
      simpa [trAt, vi] using this
    · simp [Value.ownBlock] at h
      omega
  have B0 : Below w1.heap.size w1 (((w1.alloc (.cells #[.slice none 0 0] 51)).alloc (.cells #[.int .i64 0] 3)).alloc (.cells #[.slice (some ⟨w1.heap.size + 1, 0, none⟩) 1 1] 51)) := ba3
  have S0 : w1.heap.size + 3 ≤ (((w1.alloc (.cells #[.slice none 0 0] 51)).alloc (.cells #[.int .i64 0] 3)).alloc (.cells #[.slice (some ⟨w1.heap.size + 1, 0, none⟩) 1 1] 51)).heap.size := by simp <;> omega
  have T00 := Lib.hid T0
  clear T0 Z1
  generalize ((w1.alloc (.cells #[.slice none 0 0] 51)).alloc (.cells #[.int .i64 0] 3)).alloc (.cells #[.slice (some ⟨w1.heap.size + 1, 0, none⟩) 1 1] 51) = w8 at *
  go_loopw [9, 10, 11, 23, 26] (fun _ _ _ q _ wr => ∃ (i : Nat) (v1 v2 : Value), i ≤ N' ∧ q = .int .i64 i ∧ Hid (TS wr (w1.heap.size + 1) w.heap.size (w1.heap.size + 1 + 1) w1.heap.size a b c v1 v2 (trAt a b c (3 * i))) ∧ Below w1.heap.size w1 wr ∧ w1.heap.size + 3 ≤ wr.heap.size) (fun _ _ _ q _ _ => N' - (intOf q).toNat)
  case atStart => exact ⟨0, _, _, by omega, rfl, T00, B0, S0⟩
  case round =>
    obtain ⟨i, v1, v2, hi, rfl, HT0, hb0, hs0⟩ := hrel
    clear T00 B0 S0
    by_cases hlt : i < N'
    · have i1 : (i : Int) < (N' : Int) := by omega
      go_wp2
      refine wp_loop_rounds 4 ?_
      obtain ⟨gd0, gr0⟩ := HGo.out (3 * i) (by omega)
      have ed0 : (3 * i) / 3 = i := by omega
      have em0 : (3 * i) % 3 = 0 := by omega
      rw [ed0] at gd0
      have nl0 := tr_len a b c (3 * i)
      obtain ⟨g0, cp0, rfl, hB0⟩ := owned_some HT0.out.o1 (by omega)
      have x0 := owned_liesI HT0.out.o1 i _ (List.getElem?_eq_getElem gd0)
      rw [Nat.zero_add] at x0
      obtain ⟨r0, r0'⟩ := gr0 _ (List.getElem_mem gd0)
      have es0 : trAt a b c (3 * i + 1) = trStep a b c (trAt a b c (3 * i)) (3 * ((trAt a b c (3 * i)).1[i]).toNat + 0) := by
        rw [show 3 * i + 1 = 3 * i + 1 by omega, trAt, ed0, em0, show List.getD (trAt a b c (3 * i)).1 i 0 = (trAt a b c (3 * i)).1[i] by simp [List.getD, gd0]]
      have gi0 : (i : Int) < ((trAt a b c (3 * i)).1.length : Int) := by omega
      generalize hX0 : (trAt a b c (3 * i)).1[i] = X0 at *
      have cL0 := look_any a b c (w1.heap.size + 1) w1.heap.size w.heap.size (w1.heap.size + 1 + 1) w1.heap.size (3 * X0.toNat + 0) _ _ _ _ HZ.out (by have := HN.out; omega) HT0.out (by omega) (by omega) (by omega) (by omega) (by omega) (by omega) (by omega)
      rw [show ((3 * X0.toNat + 0 : Nat) : Int) = 3 * X0 by omega, ← es0] at cL0
      obtain ⟨y0, yf0, yl0⟩ := HT0.out.r
      have CL0 := Lib.hid cL0
      clear cL0 es0 hX0 gr0 ed0 em0
      rw [rounds_succ]
      go_wp2_with (fail)
      refine (CL0.out).mono ?_
      rintro e u1 ⟨⟨rfl, w10, w20, ht1⟩, hu1⟩
      have HT1 := Lib.hid ht1
      have hb1 := hb0.trans hu1
      have hs1 := hu1.size
      clear ht1 hu1 CL0 x0 y0 yf0 yl0
      go_wp2
      obtain ⟨gd1, gr1⟩ := HGo.out (3 * i + 1) (by omega)
      have ed1 : (3 * i + 1) / 3 = i := by omega
      have em1 : (3 * i + 1) % 3 = 1 := by omega
      rw [ed1] at gd1
      have nl1 := tr_len a b c (3 * i + 1)
      obtain ⟨g1, cp1, rfl, hB1⟩ := owned_some HT1.out.o1 (by omega)
      have x1 := owned_liesI HT1.out.o1 i _ (List.getElem?_eq_getElem gd1)
      rw [Nat.zero_add] at x1
      obtain ⟨r1, r1'⟩ := gr1 _ (List.getElem_mem gd1)
      have es1 : trAt a b c (3 * i + 2) = trStep a b c (trAt a b c (3 * i + 1)) (3 * ((trAt a b c (3 * i + 1)).1[i]).toNat + 1) := by
        rw [show 3 * i + 2 = 3 * i + 1 + 1 by omega, trAt, ed1, em1, show List.getD (trAt a b c (3 * i + 1)).1 i 0 = (trAt a b c (3 * i + 1)).1[i] by simp [List.getD, gd1]]
      have gi1 : (i : Int) < ((trAt a b c (3 * i + 1)).1.length : Int) := by omega
      generalize hX1 : (trAt a b c (3 * i + 1)).1[i] = X1 at *
      have cL1 := look_any a b c (w1.heap.size + 1) w1.heap.size w.heap.size (w1.heap.size + 1 + 1) w1.heap.size (3 * X1.toNat + 1) _ _ _ _ HZ.out (by have := HN.out; omega) HT1.out (by omega) (by omega) (by omega) (by omega) (by omega) (by omega) (by omega)
      rw [show ((3 * X1.toNat + 1 : Nat) : Int) = 3 * X1 + 1 by omega, ← es1] at cL1
      obtain ⟨y1, yf1, yl1⟩ := HT1.out.r
      have CL1 := Lib.hid cL1
      clear cL1 es1 hX1 gr1 ed1 em1
      rw [rounds_succ]
      go_wp2_with (fail)
      refine (CL1.out).mono ?_
      rintro e u2 ⟨⟨rfl, w11, w21, ht2⟩, hu2⟩
      have HT2 := Lib.hid ht2
      have hb2 := hb1.trans hu2
      have hs2 := hu2.size
      clear ht2 hu2 CL1 x1 y1 yf1 yl1
      go_wp2
      obtain ⟨gd2, gr2⟩ := HGo.out (3 * i + 2) (by omega)
      have ed2 : (3 * i + 2) / 3 = i := by omega
      have em2 : (3 * i + 2) % 3 = 2 := by omega
      rw [ed2] at gd2
      have nl2 := tr_len a b c (3 * i + 2)
      obtain ⟨g2, cp2, rfl, hB2⟩ := owned_some HT2.out.o1 (by omega)
      have x2 := owned_liesI HT2.out.o1 i _ (List.getElem?_eq_getElem gd2)
      rw [Nat.zero_add] at x2
      obtain ⟨r2, r2'⟩ := gr2 _ (List.getElem_mem gd2)
      have es2 : trAt a b c (3 * (i + 1)) = trStep a b c (trAt a b c (3 * i + 2)) (3 * ((trAt a b c (3 * i + 2)).1[i]).toNat + 2) := by
        rw [show 3 * (i + 1) = 3 * i + 2 + 1 by omega, trAt, ed2, em2, show List.getD (trAt a b c (3 * i + 2)).1 i 0 = (trAt a b c (3 * i + 2)).1[i] by simp [List.getD, gd2]]
      have gi2 : (i : Int) < ((trAt a b c (3 * i + 2)).1.length : Int) := by omega
      generalize hX2 : (trAt a b c (3 * i + 2)).1[i] = X2 at *
      have cL2 := look_any a b c (w1.heap.size + 1) w1.heap.size w.heap.size (w1.heap.size + 1 + 1) w1.heap.size (3 * X2.toNat + 2) _ _ _ _ HZ.out (by have := HN.out; omega) HT2.out (by omega) (by omega) (by omega) (by omega) (by omega) (by omega) (by omega)
      rw [show ((3 * X2.toNat + 2 : Nat) : Int) = 3 * X2 + 2 by omega, ← es2] at cL2
      obtain ⟨y2, yf2, yl2⟩ := HT2.out.r
      have CL2 := Lib.hid cL2
      clear cL2 es2 hX2 gr2 ed2 em2
      rw [rounds_succ]
      go_wp2_with (fail)
      refine (CL2.out).mono ?_
      rintro e u3 ⟨⟨rfl, w12, w22, ht3⟩, hu3⟩
      have HT3 := Lib.hid ht3
      have hb3 := hb2.trans hu3
      have hs3 := hu3.size
      clear ht3 hu3 CL2 x2 y2 yf2 yl2
      go_wp2
      rw [rounds_succ]
      go_wp2
      exact ⟨⟨i + 1, _, _, by omega, by go_num, HT3, hb3, by omega⟩, by simp [intOf]; omega⟩
    · obtain rfl : N' = i := by omega
      have o2 := HT0.out.o2
      obtain ⟨ao, cp, rfl, hl⟩ := owned_liesOI o2
      obtain ⟨y0, yf, yl⟩ := HT0.out.k
      have HL := Lib.hid hl
      clear o2 hl
      go_wp2
      go_ret2
      exact ⟨⟨ao, cp, rfl, HL.out⟩, b1.trans (hb0.mono b1.size)⟩
end Go.Proofs.YtkgihmhehkaocaaGreat

/- The tree of sizes that are not good, as the program finds it.
Conditions: none. -/
namespace Go.Proofs.YtkgihmhehkaocaaGreat
set_option linter.unusedVariables false
set_option linter.unusedSimpArgs false
set_option maxRecDepth 1000000
open Go.RowKit
open Um Tm

end Go.Proofs.YtkgihmhehkaocaaGreat

/- The tree of a torus, as the document's answers make it.
Conditions: none. -/
namespace Go.Proofs.YtkgihmhehkaocaaGreat
set_option linter.unusedVariables false
set_option linter.unusedSimpArgs false
set_option maxRecDepth 1000000
open Go.RowKit
open Um Tm

/-- the sites that are reached and the tree's links, each a row of the call's own -/
structure TL (w : World) (B : Nat) (v1 v2 : Value) (s : List Int × List Int) : Prop where
  o1 : w.ownsRow B 3 1 v1 s.1.length (s.1.map vi)
  o2 : w.ownsRow B 3 1 v2 s.2.length (s.2.map vi)
  d : ∀ j, v1.ownBlock = some j → v2.ownBlock ≠ some j
theorem TL.later {w w1 : World} {B : Nat} {v1 v2 : Value} {s : List Int × List Int} (h : TL w B v1 v2 s) (hb : Below w.heap.size w w1) : TL w1 B v1 v2 s :=
  ⟨owned_later h.o1 hb, owned_later h.o2 hb, h.d⟩
end Go.Proofs.YtkgihmhehkaocaaGreat
