/- Vectors turned by units, as the program and the document's answers turn them.
Conditions: none but the bounds that are written. -/
import Derived.Test.YtoafojojhdcmfaaDist
namespace Go.Proofs.Ytoafojojhdcmfaa
set_option linter.unusedVariables false
set_option linter.unusedSimpArgs false
open Go.RowKit
open Um

set_option maxHeartbeats 1600000 in
theorem over_any (x : Q) (n : Int) (w : World) (hb : -4611686018427387904 ≤ x.b ∧ x.b ≤ 4611686018427387904) (hc : -4611686018427387904 ≤ x.c ∧ x.c ≤ 4611686018427387904) (hd : -4611686018427387904 ≤ x.d ∧ x.d ≤ 4611686018427387904) (hn : 0 < n ∧ n ≤ 4611686018427387904) :
    Calls Try.prog 137 #[.agg #[.int .i64 x.b, .int .i64 x.c, .int .i64 x.d], .int .i64 n] w fun e w' => e = .returned (.agg #[.int .i64 (rat x.b n).1, .int .i64 (rat x.b n).2, .int .i64 (rat x.c n).1, .int .i64 (rat x.c n).2, .int .i64 (rat x.d n).1, .int .i64 (rat x.d n).2]) ∧ Below w.heap.size w w' := by
  have c1 := fun W : World => ratio_any x.b n W hb hn
  have c2 := fun W : World => ratio_any x.c n W hc hn
  have c3 := fun W : World => ratio_any x.d n W hd hn
  clear hb hc hd hn
  generalize rat x.b n = p at *
  generalize rat x.c n = q at *
  generalize rat x.d n = r at *
  have kc := @Tail.cell_re
  go_enter Try.func137, Try.ntmps137
  go_wp2
  refine Tail.region_tail_below 13 (by kernel_rfl) (by kernel_rfl) ?_
  simp only [List.take_succ_cons, List.take_zero, List.drop_succ_cons, List.drop_zero]
  repeat (go_big_quiet_step (first | (with_reducible exact Calls.regrown_of (c1 _)) | (with_reducible exact Calls.regrown_of (c2 _)) | (with_reducible exact Calls.regrown_of (c3 _))))
  refine wpQuiet_nil ?_
  intro w2 hw2
  have hc2 := Tail.cells hw2
  go_wp2
  refine bodyPost_ret (v := .agg #[.int .i64 p.1, .int .i64 p.2, .int .i64 q.1, .int .i64 q.2, .int .i64 r.1, .int .i64 r.2]) ?_ rfl ⟨rfl, ?_⟩
  · simp [results, Try.results137, go_sem, hc2]
  · repeat (first | (with_reducible exact Below.refl _ _) | (with_reducible refine Below.setCell ?_ ?_ _) | (with_reducible refine Below.drew ?_) | (with_reducible refine Below.alloc ?_ ?_ _) | (with_reducible refine Below.trans ?_ (Below.mono hw2 ?_)) | (with_reducible exact hw2.size) | omega | (simp <;> omega) | (simp <;> (have s := hw2.size; omega)) | (have s0 := hw2.size; (try simp at s0); (try simp); omega))
end Go.Proofs.Ytoafojojhdcmfaa
