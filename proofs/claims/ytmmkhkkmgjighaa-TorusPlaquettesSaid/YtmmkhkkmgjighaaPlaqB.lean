/- The plaquettes of a field, as the program makes them: what it answers to a good field and to a bad one.
Conditions: those written at each theorem. -/
import Derived.Test.YtmmkhkkmgjighaaPlaq
namespace Go.Proofs.Ytmmkhkkmgjighaa
set_option linter.unusedVariables false
set_option linter.unusedSimpArgs false
set_option maxRecDepth 1000000
open Go.RowKit
open Um Tm

theorem plaquettes_good (a b c : Int) (bl off cap N : Nat) (L : List Q) (w : World) (hl : Lies w bl off L) (hF : Fl a b c L) (hr : fldR a b c L 0) (hz : Sz a b c) (hN : (N : Int) = a * b * c) (hlen : L.length ≤ 1000) :
    Calls Try.prog 16 #[.agg #[.int .i64 a, .int .i64 b, .int .i64 c, .slice (some ⟨bl, off, none⟩) L.length cap]] w fun e w' => ∃ v, e = .returned (.tuple #[v, .int .i64 0]) ∧ w'.ownsRow w.heap.size 32 5 v (3 * N) ((plqs a b c L (List.range N)).flatMap uc) ∧ Below w.heap.size w w' :=
  callsIn_wide.1 (plaquettes_ok a b c bl off cap N L w hl hF hr hz hN hlen)

set_option maxHeartbeats 800000 in
theorem plaquettes_bad (a b c r : Int) (ao : Option Addr) (cap : Nat) (L : List Q) (w : World) (h : LiesO w ao L) (hr : fldR a b c L r) (hlen : L.length ≤ 1000000) (hne : (r == 0) = false) (hne' : (r != 0) = true) :
    Calls Try.prog 16 #[.agg #[.int .i64 a, .int .i64 b, .int .i64 c, .slice ao L.length cap]] w fun e w' => e = .returned (.tuple #[.slice none 0 0, .int .i64 r]) ∧ Below w.heap.size w w' := by
  have cV := fun (W : World) (h : LiesO W ao L) => validateF_any a b c r ao cap L W h hr hlen
  have H := Lib.hid h
  clear h hr
  go_enter Try.func16, Try.ntmps16
  go_wp2_with ((with_reducible refine (cV _ (H.out.later (by repeat (first | (with_reducible exact Below.refl _ _) | (with_reducible refine Below.setCell ?_ ?_ _) | (with_reducible refine Below.drew ?_) | (with_reducible refine Below.alloc ?_ ?_ _) | omega | (simp <;> omega))))).mono ?_); rintro e w1 ⟨rfl, hw1⟩; have hc := Tail.cells hw1; have zw10 := Nat.lt_of_lt_of_le (n := w.heap.size) (by simp <;> omega) hw1.size; have zw11 := Nat.lt_of_lt_of_le (n := w.heap.size + 1) (by simp <;> omega) hw1.size; have zw12 := Nat.lt_of_lt_of_le (n := w.heap.size + 2) (by simp <;> omega) hw1.size)
  refine bodyPost_ret (v := .tuple #[.slice none 0 0, .int .i64 r]) ?_ rfl ⟨rfl, ?_⟩
  · simp [results, Try.results16, go_sem, hc, zw10, zw11, zw12]
  · repeat (first | (with_reducible exact Below.refl _ _) | (with_reducible refine Below.setCell ?_ ?_ _) | (with_reducible refine Below.drew ?_) | (with_reducible refine Below.alloc ?_ ?_ _) | (with_reducible refine Below.trans ?_ (Below.mono hw1 ?_)) | (with_reducible exact hw1.size) | omega | (simp <;> omega) | (simp <;> (have s := hw1.size; omega)) | (have s0 := hw1.size; (try simp at s0); (try simp); omega))
end Go.Proofs.Ytmmkhkkmgjighaa
