/- Which lists of units are gauge transformations of a field, as the program and the document's answers find it.
Conditions: the lists lie in memory as it is written at each theorem. -/
import Derived.Test.YtkgihmhehkaocaaGreatRFieldC
import Derived.Test.YtkgihmhehkaocaaGreatRWlkA
import Derived.Test.YtkgihmhehkaocaaGreatRQuatB
import Derived.Test.YtkgihmhehkaocaaGreatRLBox
import Derived.Test.YtkgihmhehkaocaaGreatRCopyC
namespace Go.Proofs.YtkgihmhehkaocaaGreat
set_option linter.unusedVariables false
set_option linter.unusedSimpArgs false
set_option maxRecDepth 1000000
open Go.RowKit
open Um Tm

/-- the error of a field and a list of units, one at each site -/
def gaR (a b c : Int) (L G : List Q) (r : Int) : Prop := (fldR a b c L r ∧ r ≠ 0) ∨ (fldR a b c L 0 ∧ 3 * G.length ≠ L.length ∧ r = 1) ∨ (fldR a b c L 0 ∧ 3 * G.length = L.length ∧ LinksR G r)
theorem gaR_ok {a b c : Int} {L G : List Q} (h : gaR a b c L G 0) : fldR a b c L 0 ∧ 3 * G.length = L.length ∧ ∀ (i : Nat) (x : Q), G[i]? = some x → V x ∧ x.n ≤ 5 := by
  rcases h with ⟨_, h⟩ | ⟨_, _, h⟩ | ⟨hf, hn, hr⟩
  · exact absurd rfl h
  · exact absurd h (by decide)
  · refine ⟨hf, hn, fun i x hx => ?_⟩
    rcases hr with ⟨h, _⟩ | ⟨_, _, _, _, h, _⟩
    · rcases h i x hx with ⟨_, h⟩ | ⟨_, _, h⟩ | ⟨h1, h2, _⟩
      · exact absurd h (by decide)
      · exact absurd h (by decide)
      · exact ⟨h1, h2⟩
    · exact absurd rfl h
theorem links_next {L : List Q} {k : Nat} {x : Q} (hx : L[k]? = some x) (hall : ∀ (i : Nat) (y : Q), i < k → L[i]? = some y → LinkR y 0) (h : LinkR x 0) : ∀ (i : Nat) (y : Q), i < k + 1 → L[i]? = some y → LinkR y 0 := fun i y hi hy => by
  by_cases he : i < k
  · exact hall i y he hy
  · obtain rfl : i = k := by omega
    have := hx.symm.trans hy
    simp only [Option.some.injEq] at this
    rw [← this]
    exact h
set_option maxHeartbeats 1600000 in
theorem gaV_any (a b c r : Int) (ao go : Option Addr) (cap gc : Nat) (L G : List Q) (w : World) (h : LiesO w ao L) (hg : LiesO w go G) (hr : gaR a b c L G r) (hlen : L.length ≤ 1000000) (hlen2 : G.length ≤ 1000000) : Calls Tryz.prog 32 #[.agg #[.int .i64 a, .int .i64 b, .int .i64 c, .slice ao L.length cap], .slice go G.length gc] w fun e w' => e = .returned (.int .i64 r) ∧ Below w.heap.size w w' := by
  have H := Lib.hid h
  rcases hr with ⟨hf, h0⟩ | ⟨hf, hn, rfl⟩ | ⟨hf, hn, hr⟩
  · have c1 := fun (W : World) (h : LiesO W ao L) => validateF_any a b c r ao cap L W h hf hlen
    have h0' : (r != 0) = true := by simpa using h0
    clear h hg hf h0
    go_enter Tryz.func32, Tryz.ntmps32
    go_wp2_with (fail)
    refine (c1 _ (H.out.later (by repeat (first | (with_reducible exact Below.refl _ _) | (with_reducible refine Below.setCell ?_ ?_ _) | (with_reducible refine Below.drew ?_) | (with_reducible refine Below.alloc ?_ ?_ _) | omega | (simp <;> omega))))).mono ?_
    rintro e w1 ⟨rfl, hw1⟩
    go_wp2
    go_ret
    exact ⟨rfl, by repeat (first | (with_reducible exact Below.refl _ _) | (with_reducible refine Below.setCell ?_ ?_ _) | (with_reducible refine Below.drew ?_) | (with_reducible refine Below.alloc ?_ ?_ _) | (with_reducible refine Below.trans ?_ (Below.mono hw1 ?_)) | (with_reducible exact hw1.size) | omega | (simp <;> omega) | (simp <;> (have s := hw1.size; omega)) | (have s0 := hw1.size; (try simp at s0); (try simp); omega))⟩
  · have c1 := fun (W : World) (h : LiesO W ao L) => validateF_any a b c 0 ao cap L W h hf hlen
    have e1 : IntKind.i64.wrap (3 * (G.length : Int)) = 3 * (G.length : Int) := IntWalk.i64_in _ (by omega)
    have e2 : (3 * (G.length : Int) != (L.length : Int)) = true := by simp; omega
    clear h hg hf hn
    go_enter Tryz.func32, Tryz.ntmps32
    have F0 := Lib.hid (FW.n1 (w := w) (x := a) (y := b) (z := c) (v := .slice ao L.length cap) (T := 25))
    go_wp2_with (fail)
    refine (c1 _ (H.out.later (by repeat (first | (with_reducible exact Below.refl _ _) | (with_reducible refine Below.setCell ?_ ?_ _) | (with_reducible refine Below.drew ?_) | (with_reducible refine Below.alloc ?_ ?_ _) | omega | (simp <;> omega))))).mono ?_
    rintro e w1 ⟨rfl, hw1⟩
    obtain ⟨f0, f1, f2, f3, ff, fl⟩ := F0.out.later hw1
    go_wp2
    go_ret
    exact ⟨rfl, by repeat (first | (with_reducible exact Below.refl _ _) | (with_reducible refine Below.setCell ?_ ?_ _) | (with_reducible refine Below.drew ?_) | (with_reducible refine Below.alloc ?_ ?_ _) | (with_reducible refine Below.trans ?_ (Below.mono hw1 ?_)) | (with_reducible exact hw1.size) | omega | (simp <;> omega) | (simp <;> (have s := hw1.size; omega)) | (have s0 := hw1.size; (try simp at s0); (try simp); omega))⟩
  · have c1 := fun (W : World) (h : LiesO W ao L) => validateF_any a b c 0 ao cap L W h hf hlen
    have e1 : IntKind.i64.wrap (3 * (G.length : Int)) = 3 * (G.length : Int) := IntWalk.i64_in _ (by omega)
    have e2 : (3 * (G.length : Int) != (L.length : Int)) = false := by simp; omega
    obtain ⟨bl, off, rfl, hg2⟩ : ∃ bl off, go = some ⟨bl, off, none⟩ ∧ Lies w bl off G := by
      rcases hg with rfl | hg
      · have hz := (fldR_ok hf).1
        have hl := (fldR_ok hf).2.1
        obtain ⟨-, -, p3, -⟩ := mul_rng hz.a1 hz.a4 hz.b1 hz.b4 hz.c1 hz.c4
        exfalso
        simp at hn
        omega
      · exact hg
    have HG := Lib.hid hg2
    have HR := Lib.hid hr
    clear h hg hg2 hr hf hn
    go_enter Tryz.func32, Tryz.ntmps32
    have F0 := Lib.hid (FW.n1 (w := w) (x := a) (y := b) (z := c) (v := .slice ao L.length cap) (T := 25))
    go_wp2_with (fail)
    refine (c1 _ (H.out.later (by repeat (first | (with_reducible exact Below.refl _ _) | (with_reducible refine Below.setCell ?_ ?_ _) | (with_reducible refine Below.drew ?_) | (with_reducible refine Below.alloc ?_ ?_ _) | omega | (simp <;> omega))))).mono ?_
    rintro e w1 ⟨rfl, hw1⟩
    obtain ⟨f0, f1, f2, f3, ff, fl⟩ := F0.out.later hw1
    go_wp2
    have b1 : Below w.heap.size w w1 := by repeat (first | (with_reducible exact Below.refl _ _) | (with_reducible refine Below.setCell ?_ ?_ _) | (with_reducible refine Below.drew ?_) | (with_reducible refine Below.alloc ?_ ?_ _) | (with_reducible refine Below.trans ?_ (Below.mono hw1 ?_)) | (with_reducible exact hw1.size) | omega | (simp <;> omega) | (simp <;> (have s := hw1.size; omega)) | (have s0 := hw1.size; (try simp at s0); (try simp); omega))
    clear c1 F0 f0 f1 f2 f3 ff fl e2
    go_loopw [7, 8, 23] (fun _ _ q wr => ∃ k : Nat, k ≤ G.length ∧ q = .int .i64 k ∧ Hid (∀ (i : Nat) (y : Q), i < k → G[i]? = some y → LinkR y 0) ∧ Below w.heap.size w wr) (fun _ _ q _ => G.length - (intOf q).toNat)
    case atStart => exact ⟨0, by omega, rfl, Lib.hid (fun i y h => by omega), b1⟩
    case round =>
      obtain ⟨k, hk, rfl, hall, hb⟩ := hrel
      have hbs := hb.size
      by_cases hlt : k < G.length
      · have hx : G[k]? = some G[k] := List.getElem?_eq_getElem hlt
        obtain ⟨l0, l1, l2, l3, l4⟩ := HG.out.later hb k _ hx
        have hor := links_at HR.out hall.out hlt
        have hnx := links_next hx hall.out
        generalize G[k] = x at *
        clear hx
        rcases hor with hgood | ⟨hbad, hr0⟩
        · have hnext := Lib.hid (hnx hgood)
          clear hnx hall
          have hv : V x ∧ ¬ 5 < x.n := by
            rcases hgood with ⟨_, h⟩ | ⟨_, _, h⟩ | ⟨h1, h2, _⟩
            · exact absurd h (by decide)
            · exact absurd h (by decide)
            · exact ⟨h1, by omega⟩
          obtain ⟨hv, h5⟩ := hv
          have c3 := fun W : World => validate_ok x W hv
          clear hgood hv
          go_wp2_with (fail)
          refine (c3 _).mono ?_
          rintro e w3 ⟨rfl, hw3⟩
          have hc3 := Tail.cells hw3
          have z0 := Nat.lt_of_lt_of_le (n := wr.heap.size) (by simp) hw3.size
          go_wp2
          exact ⟨⟨k + 1, by omega, by go_num, hnext, by repeat (first | (with_reducible exact Below.refl _ _) | (with_reducible refine Below.setCell ?_ ?_ _) | (with_reducible refine Below.drew ?_) | (with_reducible refine Below.alloc ?_ ?_ _) | (with_reducible refine Below.trans ?_ (Below.mono hw3 ?_)) | (with_reducible refine Below.trans ?_ (Below.mono hb ?_)) | (with_reducible exact hw3.size) | (with_reducible exact hb.size) | omega | (simp <;> omega) | (simp <;> (have s := hw3.size; omega)) | (simp <;> (have s := hb.size; omega)) | (have s0 := hw3.size; (try simp at s0); have s1 := hb.size; (try simp at s1); (try simp); omega))⟩, by simp [intOf]; omega⟩
        · rcases hbad with ⟨hv, rfl⟩ | ⟨hv, h5, rfl⟩ | ⟨_, _, rfl⟩
          · have c3 := fun W : World => validate_bad x W hv
            clear hv hnx hall
            go_wp2_with (fail)
            refine (c3 _).mono ?_
            rintro e w3 ⟨rfl, hw3⟩
            go_wp2
            go_ret
            exact ⟨rfl, by repeat (first | (with_reducible exact Below.refl _ _) | (with_reducible refine Below.setCell ?_ ?_ _) | (with_reducible refine Below.drew ?_) | (with_reducible refine Below.alloc ?_ ?_ _) | (with_reducible refine Below.trans ?_ (Below.mono hw3 ?_)) | (with_reducible refine Below.trans ?_ (Below.mono hb ?_)) | (with_reducible exact hw3.size) | (with_reducible exact hb.size) | omega | (simp <;> omega) | (simp <;> (have s := hw3.size; omega)) | (simp <;> (have s := hb.size; omega)) | (have s0 := hw3.size; (try simp at s0); have s1 := hb.size; (try simp at s1); (try simp); omega))⟩
          · have c3 := fun W : World => validate_ok x W hv
            clear hv hnx hall
            go_wp2_with (fail)
            refine (c3 _).mono ?_
            rintro e w3 ⟨rfl, hw3⟩
            have hc3 := Tail.cells hw3
            have z0 := Nat.lt_of_lt_of_le (n := wr.heap.size) (by simp) hw3.size
            go_wp2
            go_ret
            exact ⟨rfl, by repeat (first | (with_reducible exact Below.refl _ _) | (with_reducible refine Below.setCell ?_ ?_ _) | (with_reducible refine Below.drew ?_) | (with_reducible refine Below.alloc ?_ ?_ _) | (with_reducible refine Below.trans ?_ (Below.mono hw3 ?_)) | (with_reducible refine Below.trans ?_ (Below.mono hb ?_)) | (with_reducible exact hw3.size) | (with_reducible exact hb.size) | omega | (simp <;> omega) | (simp <;> (have s := hw3.size; omega)) | (simp <;> (have s := hb.size; omega)) | (have s0 := hw3.size; (try simp at s0); have s1 := hb.size; (try simp at s1); (try simp); omega))⟩
          · exact absurd rfl hr0
      · obtain rfl : k = G.length := by omega
        obtain rfl : r = 0 := links_end HR.out hall.out
        clear hall
        go_wp2
        go_ret
        exact ⟨rfl, hb⟩

end Go.Proofs.YtkgihmhehkaocaaGreat

/- Lists of units with norms that a link may have, as the program and the document's answers find them.
Conditions: the list lies in memory as it is written at each theorem. -/
namespace Go.Proofs.YtkgihmhehkaocaaGreat
set_option linter.unusedVariables false
set_option linter.unusedSimpArgs false
set_option maxRecDepth 1000000
open Go.RowKit
open Um Tm

/-- no unit is too great for a link -/
def Lim (G : List Q) : Prop := ∀ (i : Nat) (x : Q), G[i]? = some x → x.n ≤ 5
theorem lim_next {G : List Q} {x : Q} {k : Nat} (hx : G[k]? = some x) (h5 : x.n ≤ 5) (h : ∀ (i : Nat) (x : Q), i < k → G[i]? = some x → x.n ≤ 5) : ∀ (i : Nat) (x : Q), i < k + 1 → G[i]? = some x → x.n ≤ 5 := fun i y hi hy => by
  by_cases he : i < k
  · exact h i y he hy
  · obtain rfl : i = k := by omega
    have := hx.symm.trans hy
    simp only [Option.some.injEq] at this
    rw [← this]
    exact h5
set_option maxHeartbeats 800000 in
theorem limited_any (bl off cap : Nat) (G : List Q) (w : World) (hg : Lies w bl off G) (hn : G.length ≤ 1000000) : Calls Tryz.prog 34 #[.slice (some ⟨bl, off, none⟩) G.length cap] w fun e w' => ((Lim G ∧ e = .returned (.tuple #[.slice (some ⟨bl, off, none⟩) G.length cap, .int .i64 0])) ∨ (¬ Lim G ∧ e = .returned (.tuple #[.slice none 0 0, .int .i64 3]))) ∧ Below w.heap.size w w' := by
  have H := Lib.hid hg
  clear hg
  go_enter Tryz.func34, Tryz.ntmps34
  go_wp2
  go_loopw [5, 8] (fun _ q wr => ∃ k : Nat, k ≤ G.length ∧ q = .int .i64 k ∧ Hid (∀ (i : Nat) (x : Q), i < k → G[i]? = some x → x.n ≤ 5) ∧ Below w.heap.size w wr) (fun _ q _ => G.length - (intOf q).toNat)
  case atStart => exact ⟨0, by omega, rfl, Lib.hid (fun i x h => by omega), Below.refl _ _⟩
  case round =>
    obtain ⟨k, hk, rfl, hall, hb⟩ := hrel
    have hbs := hb.size
    by_cases hlt : k < G.length
    · have hx : G[k]? = some G[k] := List.getElem?_eq_getElem hlt
      obtain ⟨l0, l1, l2, l3, l4⟩ := H.out.later hb k _ hx
      have hnx := fun h5 => lim_next hx h5 hall.out
      have hno : 5 < G[k].n → ¬ Lim G := fun h5 hl => absurd (hl k _ hx) (by omega)
      generalize G[k] = x at *
      clear hx
      by_cases h5 : 5 < x.n
      · have HN := Lib.hid (hno h5)
        clear hnx hno hall
        go_wp2
        go_ret2
        exact ⟨.inr ⟨HN.out, rfl⟩, by repeat (first | (with_reducible exact Below.refl _ _) | (with_reducible refine Below.setCell ?_ ?_ _) | (with_reducible refine Below.drew ?_) | (with_reducible refine Below.alloc ?_ ?_ _) | (with_reducible refine Below.trans ?_ (Below.mono hb ?_)) | (with_reducible exact hb.size) | omega | (simp <;> omega) | (simp <;> (have s := hb.size; omega)) | (have s0 := hb.size; (try simp at s0); (try simp); omega))⟩
      · have hnext := Lib.hid (hnx (by omega))
        clear hnx hno hall
        go_wp2
        exact ⟨⟨k + 1, by omega, by go_num, hnext, by repeat (first | (with_reducible exact Below.refl _ _) | (with_reducible refine Below.setCell ?_ ?_ _) | (with_reducible refine Below.drew ?_) | (with_reducible refine Below.alloc ?_ ?_ _) | (with_reducible refine Below.trans ?_ (Below.mono hb ?_)) | (with_reducible exact hb.size) | omega | (simp <;> omega) | (simp <;> (have s := hb.size; omega)) | (have s0 := hb.size; (try simp at s0); (try simp); omega))⟩, by simp [intOf]; omega⟩
    · obtain rfl : k = G.length := by omega
      have HL : Hid (Lim G) := Lib.hid (fun i x hx => hall.out i x (List.getElem?_eq_some_iff.1 hx).1 hx)
      clear hall
      go_wp2
      go_ret2
      exact ⟨.inl ⟨HL.out, rfl⟩, hb⟩
end Go.Proofs.YtkgihmhehkaocaaGreat

/- The inverses of a gauge transformation, as the program and the document's answers make them.
Conditions: the lists lie in memory as it is written at each theorem. -/
namespace Go.Proofs.YtkgihmhehkaocaaGreat
set_option linter.unusedVariables false
set_option linter.unusedSimpArgs false
set_option maxRecDepth 1000000
open Go.RowKit
open Um Tm

theorem uc_take {M : List Q} {k : Nat} (hk : k < M.length) : (M.take (k + 1)).flatMap uc = (M.take k).flatMap uc ++ uc M[k] := by
  rw [List.take_add_one, List.getElem?_eq_getElem hk, List.flatMap_append]
  simp
end Go.Proofs.YtkgihmhehkaocaaGreat
