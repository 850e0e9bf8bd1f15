/- Answers that are fields, in one form.
Conditions: none. -/
import Derived.Test.YtojmagooapjohaaGsC
namespace Go.Proofs.Ytojmagooapjohaa
set_option linter.unusedVariables false
set_option linter.unusedSimpArgs false
set_option maxRecDepth 1000000
open Go.RowKit
open Um Tm

/-- a field and no error are answered -/
def RetTf (a b c : Int) (n : Nat) (T : List Q) (e : Ending) (w' : World) : Prop := ∃ g k : Nat, e = .returned (.tuple #[.agg #[.int .i64 a, .int .i64 b, .int .i64 c, .slice (some ⟨g, 0, none⟩) n k], .int .i64 0]) ∧ LBox w' g T
/-- a field and the error r are answered -/
def AnyF (r : Int) (e : Ending) : Prop := ∃ (x y z : Int) (so : Option Addr) (n k : Nat), e = .returned (.tuple #[.agg #[.int .i64 x, .int .i64 y, .int .i64 z, .slice so n k], .int .i64 r])
theorem trf_any (a b c : Int) (ao go : Option Addr) (cap gc : Nat) (L G : List Q) (hlen : L.length ≤ 1000000) (hlen2 : G.length ≤ 1000000) : ∃ r : Int, ∀ W : World, LiesO W ao L → LiesO W go G → Calls Try.prog 13 #[.agg #[.int .i64 a, .int .i64 b, .int .i64 c, .slice ao L.length cap], .slice go G.length gc] W fun e w' => AnyF r e ∧ Below W.heap.size W w' := by
  obtain ⟨r, hr⟩ := gaR_ex a b c L G
  by_cases h0 : r = 0
  · subst h0
    have hp := fld_pos1 (gaR_ok hr).1
    have hgp : 0 < G.length := by have := (gaR_Gg hr).n; omega
    by_cases hl : Lim (tfL a b c L G)
    · refine ⟨0, fun W h h' => ?_⟩
      obtain ⟨b1, o1, rfl, k1⟩ := liesO_one h hp
      obtain ⟨b2, o2, rfl, k2⟩ := liesO_one h' hgp
      exact (gaT_lim a b c b1 o1 b2 o2 cap gc L G W k1 k2 hr hl).mono fun e w' ⟨⟨g, k, e1, _⟩, hw⟩ => ⟨⟨_, _, _, _, _, _, e1⟩, hw⟩
    · refine ⟨3, fun W h h' => ?_⟩
      obtain ⟨b1, o1, rfl, k1⟩ := liesO_one h hp
      obtain ⟨b2, o2, rfl, k2⟩ := liesO_one h' hgp
      exact (gaT_not a b c b1 o1 b2 o2 cap gc L G W k1 k2 hr hl).mono fun e w' ⟨e1, hw⟩ => ⟨⟨_, _, _, _, _, _, e1⟩, hw⟩
  · exact ⟨r, fun W h h' => (gaT_bad a b c r ao go cap gc L G W h h' hr h0 hlen hlen2).mono fun e w' ⟨e1, hw⟩ => ⟨⟨_, _, _, _, _, _, e1⟩, hw⟩⟩
end Go.Proofs.Ytojmagooapjohaa
