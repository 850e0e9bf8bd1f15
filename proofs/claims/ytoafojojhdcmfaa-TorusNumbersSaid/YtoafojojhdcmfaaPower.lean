/- Powers, as the program makes them.
Conditions: those written at each theorem. -/
import Derived.Test.YtoafojojhdcmfaaProduct
import Derived.Scope
import Derived.ScopeJumps
import Derived.WalkMore
namespace Go.Proofs.Ytoafojojhdcmfaa
set_option linter.unusedVariables false
set_option linter.unusedSimpArgs false
open Go.RowKit
open Um

theorem isW_yes (n : Int) (w : World) (h1 : -1000 ≤ n) (h2 : n ≤ 1000) : Calls Try.prog 173 #[.int .i64 n, .int .i64 1000] w fun e w' => e = .returned (.bool true) ∧ w = w' := by
  have := isWithin_any n 1000 w (by omega) (by omega)
  rwa [inB_yes h1 h2] at this
theorem isW_no (n : Int) (w : World) (h : ¬ (-1000 ≤ n ∧ n ≤ 1000)) : Calls Try.prog 173 #[.int .i64 n, .int .i64 1000] w fun e w' => e = .returned (.bool false) ∧ w = w' := by
  have h3 : inB n (-1000) 1000 = false := by
    cases hb : inB n (-1000) 1000
    · rfl
    · exact absurd (inB_iff.1 hb) h
  have := isWithin_any n 1000 w (by omega) (by omega)
  rwa [h3] at this

theorem wp_scope_jumps2 {P : Program} {a : Act} {w : World} {Q : Exit → Act → World → Prop} {c rest : Code} (l : Nat) (J : Act → World → Prop) (μ : Act → World → Nat) (hf : findLabel c l = some (Code.skip.seq rest))
    (pass : ∀ a w, J a w → rest.wp P (Exit.jump l (fun a' w' => J a' w' ∧ μ a' w' < μ a w) Q) a w)
    (first : (∀ a w, J a w → rest.wp P (Exit.jump l J Q) a w) → c.wp P (Exit.jump l J Q) a w) : (Code.scope c).wp P Q a w :=
  wp_scope_jumps l J μ hf (first (fun a w h => Code.wp_mono (fun e a w hq => by
    cases e with
    | goto l' => exact ⟨hq.1, hq.2.1⟩
    | _ => exact hq) (pass a w h))) (fun a w h => wp_seq (wp_skip (pass a w h)))

/-- a quaternion's box, to be read -/
structure QRead (w : World) (b : Nat) (x : Q) : Prop where
  cb : w.cell? ⟨b, 0, none⟩ = some (.int .i64 x.b)
  cc : w.cell? ⟨b, 1, none⟩ = some (.int .i64 x.c)
  cd : w.cell? ⟨b, 2, none⟩ = some (.int .i64 x.d)
  ca : w.cell? ⟨b, 3, none⟩ = some (.int .i64 x.a)
  cn : w.cell? ⟨b, 4, none⟩ = some (.int .i64 x.n)
  lt : b < w.heap.size
theorem QRead.later {w w1 : World} {b : Nat} {x : Q} (h : QRead w b x) (hb : Below w.heap.size w w1) : QRead w1 b x :=
  ⟨(hb.cell h.lt).trans h.cb, (hb.cell h.lt).trans h.cc, (hb.cell h.lt).trans h.cd, (hb.cell h.lt).trans h.ca, (hb.cell h.lt).trans h.cn, Nat.lt_of_lt_of_le h.lt hb.size⟩

theorem setCell_grown (w : World) (p : Addr) (v : Value) : w.grownBy (w.setCell p v) (some p.block) :=
  ⟨rfl, rfl, rfl, by simp [World.setCell], fun k _ hk => heap_setCell_other w p k v (fun e => hk (by simp [e]))⟩
theorem UBox.other {w : World} {b : Nat} {x : Q} (h : UBox w b x) {p : Addr} {v : Value} (hne : ¬ b = p.block) : UBox (w.setCell p v) b x :=
  h.grown (setCell_grown w p v) (by simpa using hne)
theorem QRead.other {w : World} {b : Nat} {x : Q} (h : QRead w b x) {p : Addr} {v : Value} (hne : ¬ b = p.block) : QRead (w.setCell p v) b x := by
  have hg := setCell_grown w p v
  have hn : some b ≠ some p.block := by simpa using hne
  exact ⟨hg.cell h.cb hn, hg.cell h.cc hn, hg.cell h.cd hn, hg.cell h.ca hn, hg.cell h.cn hn, Nat.lt_of_lt_of_le h.lt hg.size⟩

def powJ (w : World) (y : Q) (m : Nat) (r : Q) (er : Int) (v0 v1 : Value) (a' : Act) (wr : World) : Prop :=
  ∃ (left : Nat) (p : Q) (e : Int) (bf bp : Nat) (u11 u12 u13 u14 u15 u16 u17 u18 u19 u20 u21 u22 u23 u24 u25 u26 u27 u28 u29 u30 u31 u32 u33 u34 u35 u36 u37 u38 u39 u40 u41 u42 u43 u44 u45 u46 u47 u48 u49 u50 u51 u52 : Value), a' = { tmps := #[v0, v1, .pointer (some ⟨w.heap.size, 0, none⟩), undef, .pointer (some ⟨w.heap.size + 1, 0, none⟩), .int .i64 0, .int .i64 0, .pointer (some ⟨bf, 0, none⟩), .int .i64 left, .pointer (some ⟨bp, 0, none⟩), .int .i64 e, u11, u12, u13, u14, u15, u16, u17, u18, u19, u20, u21, u22, u23, u24, u25, u26, u27, u28, u29, u30, u31, u32, u33, u34, u35, u36, u37, u38, u39, u40, u41, u42, u43, u44, u45, u46, u47, u48, u49, u50, u51, u52], defers := [] } ∧
    left ≤ m ∧ ((e = 0 ∧ V p ∧ prodFrom one ((List.replicate m y).take (m - left)) = (p, 0)) ∨ (e = 3 ∧ p = zero ∧ r = zero ∧ er = 3)) ∧ QRead wr bf y ∧ UBox wr bp p ∧ UBox wr (w.heap.size + 1) zero ∧ w.heap.size + 1 < bf ∧ bf < bp ∧ Below w.heap.size w wr

end Go.Proofs.Ytoafojojhdcmfaa
