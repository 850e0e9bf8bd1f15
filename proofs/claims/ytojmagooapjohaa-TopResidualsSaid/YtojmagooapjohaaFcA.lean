/- Answers of Apply, Turned and Transform in one form.
Conditions: those written at each theorem. -/
import Derived.Test.YtojmagooapjohaaCvM
import Derived.Test.YtojmagooapjohaaGsC
namespace Go.Proofs.Ytojmagooapjohaa
set_option linter.unusedVariables false
set_option linter.unusedSimpArgs false
set_option maxRecDepth 1000000
open Go.RowKit
open Um Tm Fm

/-- a vector and the error r are answered -/
def AnyV (r : Int) (e : Ending) : Prop := ∃ (so : Option Addr) (n k : Nat), e = .returned (.tuple #[.slice so n k, .int .i64 r])
/-- a vector that is known and no error are answered -/
def GoodV (n : Nat) (X : List Sp) (e : Ending) (w' : World) : Prop := ∃ g k : Nat, e = .returned (.tuple #[.slice (some ⟨g, 0, none⟩) n k, .int .i64 0]) ∧ LiesI w' g 0 (fl X)
theorem GoodV.any {n : Nat} {X : List Sp} {e : Ending} {w' : World} (h : GoodV n X e w') : AnyV 0 e := by
  obtain ⟨g, k, h, _⟩ := h; exact ⟨_, _, _, h⟩
/-- a field and no error are answered -/
def RetTf (a b c : Int) (n : Nat) (T : List Q) (e : Ending) (w' : World) : Prop := ∃ g k : Nat, e = .returned (.tuple #[.agg #[.int .i64 a, .int .i64 b, .int .i64 c, .slice (some ⟨g, 0, none⟩) n k], .int .i64 0]) ∧ LBox w' g T
/-- a field and the error r are answered -/
def AnyF (r : Int) (e : Ending) : Prop := ∃ (x y z : Int) (so : Option Addr) (n k : Nat), e = .returned (.tuple #[.agg #[.int .i64 x, .int .i64 y, .int .i64 z, .slice so n k], .int .i64 r])
theorem app7_ans (a b c : Int) (ao po : Option Addr) (cap pc n : Nat) (L : List Q) (ns : List Int) (M : List Sp) (hr : numsR a b c L ns 0) (hF : Fld7 a b c L n) (hlen : L.length ≤ 1000000) (hlm : M.length ≤ 1000000) :
    (∃ r : Int, r ≠ 0 ∧ ∀ W : World, LiesO W ao L → LiesOI W po (fl M) → Calls Try.prog 22 #[.agg #[.int .i64 a, .int .i64 b, .int .i64 c, .slice ao L.length cap], .int .i64 1, .slice po M.length pc] W fun e w' => AnyV r e ∧ Below W.heap.size W w') ∨
    (M.length = n ∧ ∀ W : World, LiesO W ao L → LiesOI W po (fl M) → Calls Try.prog 22 #[.agg #[.int .i64 a, .int .i64 b, .int .i64 c, .slice ao L.length cap], .int .i64 1, .slice po M.length pc] W fun e w' => GoodV n (opL 1 1 n (arms a b c L L.length) M) e w' ∧ Below W.heap.size W w') := by
  obtain ⟨r, hv⟩ := ms1_ex L.length M 0 1
  by_cases h0 : r = 0
  · subst h0
    have hl := (ms1_ok hv).2.1
    have hF' := hF.l
    refine .inr ⟨by omega, fun W h1 h2 => ?_⟩
    exact (apply_ok a b c 1 ao po cap pc L ns M W h1 h2 hr hv n hF).mono fun e w' ⟨⟨g, k, k1, k2, _⟩, hb⟩ => ⟨⟨g, k, k1, k2.liesI⟩, hb⟩
  · exact .inl ⟨r, h0, fun W h1 h2 => (apply_bad a b c 0 1 r ao po cap pc L ns M W h1 h2 hr hv h0 hlen hlm).mono fun e w' ⟨k, hb⟩ => ⟨⟨_, _, _, k⟩, hb⟩⟩
theorem tur7_ans (a b c : Int) (ao uo po : Option Addr) (cap uc pc n : Nat) (L : List Q) (ns : List Int) (U : List Q) (M : List Sp) (hr : numsR a b c L ns 0) (hF : Fld7 a b c L n) (hlen : L.length ≤ 1000000) (hlm : M.length ≤ 1000000) :
    (∃ r : Int, r ≠ 0 ∧ ∀ W : World, LiesO W ao L → LiesO W uo U → LiesOI W po (fl M) → Calls Try.prog 21 #[.agg #[.int .i64 a, .int .i64 b, .int .i64 c, .slice ao L.length cap], .slice uo U.length uc, .slice po M.length pc] W fun e w' => AnyV r e ∧ Below W.heap.size W w') ∨
    ((M.length = n ∧ U.length = n ∧ AllU U) ∧ ∀ W : World, LiesO W ao L → LiesO W uo U → LiesOI W po (fl M) → Calls Try.prog 21 #[.agg #[.int .i64 a, .int .i64 b, .int .i64 c, .slice ao L.length cap], .slice uo U.length uc, .slice po M.length pc] W fun e w' => GoodV n (tuL U M) e w' ∧ Below W.heap.size W w') := by
  obtain ⟨r1, hv⟩ := vS_ex L.length M 0
  have hF' := hF.l
  have hp := hF.pos
  by_cases h0 : r1 = 0
  · have hv0 := hv
    rw [h0] at hv0
    obtain ⟨-, hM, -⟩ := vS_ok hv0
    by_cases hl : U.length = M.length
    · have c1 := fun (W : World) (k1 : LiesO W ao L) (k2 : LiesO W uo U) (k3 : LiesOI W po (fl M)) => turned_on a b c 0 r1 ao uo po cap uc pc L ns U M W k1 k2 k3 hr hv h0 hl (by omega) hlen hlm
      have en : M.length = n := by omega
      by_cases hA : AllU U
      · refine .inr ⟨⟨en, by omega, hA⟩, fun W k1 k2 k3 => (c1 W k1 k2 k3).mono fun e w' ⟨k, hw⟩ => ⟨?_, hw⟩⟩
        rcases k with ⟨_, g, k, e1, e2, _⟩ | ⟨k, _⟩
        · rw [en] at e1; exact ⟨g, k, e1, e2.liesI⟩
        · exact absurd hA k
      · refine .inl ⟨1, by decide, fun W k1 k2 k3 => (c1 W k1 k2 k3).mono fun e w' ⟨k, hw⟩ => ⟨?_, hw⟩⟩
        rcases k with ⟨k, _⟩ | ⟨_, k⟩
        · exact absurd k hA
        · exact ⟨_, _, _, k⟩
    · exact .inl ⟨1, by decide, fun W k1 k2 k3 => (turned_off a b c 0 r1 ao uo po cap uc pc L ns U M W k1 k2 k3 hr hv h0 hl hlen hlm).mono fun e w' ⟨k, hw⟩ => ⟨⟨_, _, _, k⟩, hw⟩⟩
  · exact .inl ⟨r1, h0, fun W k1 k2 k3 => (turned_err a b c 0 r1 ao uo po cap uc pc L ns U M W k1 k2 k3 hr hv h0 hlen hlm).mono fun e w' ⟨k, hw⟩ => ⟨⟨_, _, _, k⟩, hw⟩⟩
theorem tf_nums {a b c : Int} {L G : List Q} (hF : Fl a b c L) (hz : Sz a b c) (hn : (L.length : Int) = 3 * (a * b * c)) (hg : 3 * G.length = L.length) (hL : AllS L) (hG : AllS G) : ∃ ns, numsR a b c (tfL a b c L G) ns 0 := by
  have hA := AllS.tf hz hn hg hL hG
  have hf : fldR a b c (tfL a b c L G) 0 := tf_fldR hF ⟨hg, fun i x hx => ⟨(hG i x hx).1, by have := (hG i x hx).2; omega⟩⟩ hA.lim
  obtain ⟨ns, q, hq⟩ := smR_ex (tfL a b c L G)
  cases q with
  | true => exact ⟨ns, .inr ⟨hf, .inl ⟨hq, rfl⟩⟩⟩
  | false =>
    exfalso
    rcases hq with ⟨h, _⟩ | ⟨_, _, k, x, h1, h2⟩
    · cases h
    · cases smNumR' h2 (hA k x h1)
theorem numsR_ok7 {a b c : Int} {L : List Q} {ns : List Int} (h : numsR a b c L ns 0) : fldR a b c L 0 ∧ AllS L ∧ Fl a b c L := by
  rcases h with ⟨_, h, _⟩ | ⟨h1, ⟨h2, _⟩ | ⟨_, h⟩⟩
  · exact absurd rfl h
  · exact ⟨h1, AllS.num h2, ⟨(fldR_ok h1).1, (fldR_ok h1).2.1, (fldR_ok h1).2.2⟩⟩
  · exact absurd h (by decide)
end Go.Proofs.Ytojmagooapjohaa
