/- A list with one unit many times, as the program makes it.
Conditions: the number is 1 to 16. -/
import Derived.Test.YtkgihmhehkaocaaGreatRCopyC
import Derived.Test.YtkgihmhehkaocaaGreatRGauC
import Derived.Laws.CopyRow
import Derived.Laws.CopyOwn
import Derived.Laws.Tables
import Derived.Deep.RegionLaw
import Derived.Test.YtkgihmhehkaocaaGreatRFieldC
import Derived.Test.YtkgihmhehkaocaaGreatRNumC
import Derived.Test.YtkgihmhehkaocaaGreatRIsSm
import Derived.Test.YtkgihmhehkaocaaGreatRGauB
namespace Go.Proofs.YtkgihmhehkaocaaGreat
set_option linter.unusedVariables false
set_option linter.unusedSimpArgs false
set_option maxRecDepth 1000000
open Go.RowKit
open Um Tm

def Up16 (n : Int) : Prop := n = 1 ∨ n = 2 ∨ n = 3 ∨ n = 4 ∨ n = 5 ∨ n = 6 ∨ n = 7 ∨ n = 8 ∨ n = 9 ∨ n = 10 ∨ n = 11 ∨ n = 12 ∨ n = 13 ∨ n = 14 ∨ n = 15 ∨ n = 16
theorem up16 {n : Int} (h1 : 1 ≤ n) (h2 : n ≤ 16) : Up16 n := by unfold Up16; omega
set_option maxHeartbeats 1600000 in
theorem mul64_16 (n : Int) (w : World) (hn : Up16 n) : Calls Tryz.prog 133 #[.int .u64 1, .int .u64 n] w fun e w' => e = .returned (.tuple #[.int .u64 0, .int .u64 n]) ∧ Below w.heap.size w w' := by
  rcases hn with rfl | rfl | rfl | rfl | rfl | rfl | rfl | rfl | rfl | rfl | rfl | rfl | rfl | rfl | rfl | rfl
  all_goals
    go_enter Tryz.func133, Tryz.ntmps133
    go_wp2
    go_ret2
    exact ⟨rfl, by repeat (first | (with_reducible exact Below.refl _ _) | (with_reducible refine Below.setCell ?_ ?_ _) | (with_reducible refine Below.drew ?_) | (with_reducible refine Below.alloc ?_ ?_ _) | omega | (simp <;> omega))⟩
set_option maxHeartbeats 1600000 in
theorem mul_16 (n : Int) (w : World) (hn : Up16 n) : Calls Tryz.prog 112 #[.int .u64 1, .int .u64 n] w fun e w' => e = .returned (.tuple #[.int .u64 0, .int .u64 n]) ∧ Below w.heap.size w w' := by
  have c1 := fun W => mul64_16 n W hn
  obtain ⟨n1, n2⟩ : 1 ≤ n ∧ n ≤ 16 := by unfold Up16 at hn; omega
  clear hn
  go_enter Tryz.func112, Tryz.ntmps112
  go_wp2_with (fail)
  refine (c1 _).mono ?_
  rintro e w1 ⟨rfl, hw1⟩
  go_wp2
  go_ret2
  exact ⟨rfl, by repeat (first | (with_reducible exact Below.refl _ _) | (with_reducible refine Below.setCell ?_ ?_ _) | (with_reducible refine Below.drew ?_) | (with_reducible refine Below.alloc ?_ ?_ _) | (with_reducible refine Below.trans ?_ (Below.mono hw1 ?_)) | (with_reducible exact hw1.size) | omega | (simp <;> omega) | (simp <;> (have s := hw1.size; omega)) | (have s0 := hw1.size; (try simp at s0); (try simp); omega))⟩
/-- a block of units that is known whole -/
def KU (w : World) (b : Nat) (M : List Q) : Prop := w.heap[b]? = some (.cells (M.flatMap uc).toArray 55 (0, 0))
theorem KU.lt {w : World} {b : Nat} {M : List Q} (h : KU w b M) : b < w.heap.size := (Array.getElem?_eq_some_iff.1 h).1
theorem KU.lies {w : World} {b : Nat} {M : List Q} (h : KU w b M) : Lies w b 0 M := fun i x hx => by
  have key : ∀ j, j < 5 → w.cell? ⟨b, 0 + i * 5 + j, none⟩ = (uc x)[j]? := fun j hj => by
    unfold KU at h
    have := flat_get uc 5 (fun _ => rfl) M i x hx j hj
    simp [World.cell?, h, this]
  exact ⟨key 0 (by omega), key 1 (by omega), key 2 (by omega), key 3 (by omega), key 4 (by omega)⟩
theorem KU.box {w : World} {b : Nat} {M : List Q} (h : KU w b M) : LBox w b M := ⟨h.lies, fun j => by unfold KU at h; simp [World.frozen?, h], h.lt⟩
theorem KU.set {w : World} {b : Nat} {M : List Q} (h : KU w b M) (R : List Q) : KU (w.setRow b (R.flatMap uc).toArray) b R := setRow_heap w b _ _ _ _ h
theorem KU.below {B b : Nat} {w0 w : World} {cs : Array Value} (hb : Below B w0 w) (hge : B ≤ b) : Below B w0 (w.setRow b cs) := below_setRow hb hge cs
theorem copyU_run (w : World) (ty : TypeId) (b m dLen dCap sb so sLen sCap : Nat) (cur cs : List Q) (h : KU w b cur) (hn : cs.length = Nat.min sLen dLen) (hfit : m + cs.length ≤ cur.length) (hsrc : Lies w sb so cs) :
    (Builtin.copy_ #[23, 23] ty #[.slice (some ⟨b, m * 5, none⟩) dLen dCap, .slice (some ⟨sb, so, none⟩) sLen sCap]).run Tryz.prog w = .ok (goInt cs.length) (w.setRow b ((cur.take m ++ cs ++ cur.drop (m + cs.length)).flatMap uc).toArray) := by
  obtain ⟨i0, hi, hz0, hz1, hz2⟩ := info_parts infoU
  have fl : ∀ M : List Q, (M.flatMap uc).length = M.length * 5 := flat_len uc 5 (fun _ => rfl)
  have hl : (cs.flatMap uc).length = cs.length * i0.size := by rw [fl, hz1]
  have h1 := run_firstCells_some (P := Tryz.prog) (w := w) i0.size cs.length ⟨sb, so, none⟩ sLen sCap (cs.flatMap uc) hl (lies_news hsrc)
  have h2 := run_storeCells_at Tryz.prog b (m * 5) 55 (cs.flatMap uc) 0 (cur.flatMap uc).toArray w h (by rw [hl, hz1]; simp only [List.size_toArray, fl]; omega) (lies_ones cs)
  have e1 : ∀ (M : List Q) (k : Nat), (M.flatMap uc).take (k * 5) = (M.take k).flatMap uc := fun M => by
    induction M with
    | nil => intro k; simp
    | cons x M ih =>
      intro k
      cases k with
      | zero => simp
      | succ k =>
        rw [List.flatMap_cons, List.take_succ_cons, List.flatMap_cons, show (k + 1) * 5 = (uc x).length + k * 5 by rw [uc_len]; omega, List.take_length_add_append, ih]
  have e2 : ∀ (M : List Q) (k : Nat), (M.flatMap uc).drop (k * 5) = (M.drop k).flatMap uc := fun M => by
    induction M with
    | nil => intro k; simp
    | cons x M ih =>
      intro k
      cases k with
      | zero => simp
      | succ k =>
        rw [List.flatMap_cons, List.drop_succ_cons, show (k + 1) * 5 = (uc x).length + k * 5 by rw [uc_len]; omega, List.drop_length_add_append, ih]
  have h3 : (List.take (m * 5 + 0) (cur.flatMap uc).toArray.toList ++ cs.flatMap uc ++ List.drop (m * 5 + 0 + (cs.flatMap uc).length) (cur.flatMap uc).toArray.toList) = (cur.take m ++ cs ++ cur.drop (m + cs.length)).flatMap uc := by
    rw [List.flatMap_append, List.flatMap_append, ← e1, ← e2, fl]
    simp [Nat.add_mul]
  rw [h3] at h2
  simp [Builtin.copy_, run_underlying Tryz.underlying23, Builtin.lenOf, sizeOf, typeInfo, hi, ← hn, h1, h2]
theorem step_copyG {ops : Array Oper} {o : Oper} {a : Act} {w : World} {K : Act → World → Prop} {Q : Exit → Act → World → Prop} {E : Prop} (hgd : o.guard = none) (d s : Operand) (dT sT : TypeId)
    (ho : o.op = .call { callee := .builtin .copy, args := #[d, s], argTypes := #[dT, sT] }) (x y v : Value) (w' : World) (hd : a.eval d = x) (hs : a.eval s = y) (hrun : (Builtin.copy_ #[dT, sT] o.type #[x, y]).run Tryz.prog w = .ok v w')
    (h : K (a.put o.dst v) w') : if Region.wanted o (yielded ops a.tmps) = true then Oper.wp Tryz.prog o a w K Q else E := by
  have hw : Region.wanted o (yielded ops a.tmps) = true := by simp [Region.wanted, hgd]
  rw [if_pos hw]
  unfold Oper.wp
  simp [execOp, ho, resolve, invoke, builtin, hd, hs, hrun, Result.andThen]
  exact h
theorem run_make_units (n : Nat) (hn : n ≤ 16) (W : World) : Sem.run Tryz.prog (Instr.makeSlice 23 (.int .i64 (n : Int)) (.int .i64 (n : Int))) W = .ok (.slice (some ⟨W.heap.size, 0, none⟩) n n) (W.alloc (.cells ((List.replicate n zero).flatMap uc).toArray 55)) := by
  obtain ⟨i0, hi, hz0, hz1, hz2⟩ := info_parts infoU
  have := run_make (P := Tryz.prog) (w := W) 23 55 i0 _ Tryz.underlying23 hi hz0 .i64 .i64 (n : Int) (n : Int) (by omega) (by omega) (by rw [hz2]; omega) (by omega)
  rw [this, hz1]
  have fl : ∀ M : List Q, (M.flatMap uc).length = M.length * 5 := flat_len uc 5 (fun _ => rfl)
  have e : madeCells (Value.agg #[.int .i64 0, .int .i64 0, .int .i64 0, .int .i64 0, .int .i64 0]).cells ((n : Int).toNat * 5) = ((List.replicate n zero).flatMap uc).toArray := by
    apply Array.ext
    · simp [madeCells, fl]
    · intro i h1 h2
      have hi5 : i < n * 5 := by simpa [madeCells] using h1
      have k1 := made_zero zero n i hi5
      have hg : (List.replicate n zero)[i / 5]? = some zero := by rw [List.getElem?_replicate, if_pos (by omega)]
      have k2 := flat_get uc 5 (fun _ => rfl) (List.replicate n zero) (i / 5) zero hg (i % 5) (Nat.mod_lt _ (by decide))
      rw [show i / 5 * 5 + i % 5 = i by omega] at k2
      have k3 := k1.trans k2.symm
      rw [List.getElem?_eq_getElem (by simpa using h2)] at k3
      have hsz : i < (madeCells (uc zero).toArray (n * 5)).size := by simpa [madeCells] using hi5
      rw [Array.getElem?_eq_getElem hsz] at k3
      have := Option.some.inj k3
      simpa [Value.cells, uc, zero] using this
  rw [e]
  simp
end Go.Proofs.YtkgihmhehkaocaaGreat

/- A list with one unit many times, as the program makes it: slices.Repeat.
Conditions: the number is 1 to 16. -/
namespace Go.Proofs.YtkgihmhehkaocaaGreat
set_option linter.unusedVariables false
set_option linter.unusedSimpArgs false
set_option maxRecDepth 1000000
open Go.RowKit
open Um Tm

theorem rep_copy (x : Q) (n N k : Nat) (h : n + k ≤ N) : (List.replicate n x ++ List.replicate (N - n) zero).take n ++ List.replicate k x ++ (List.replicate n x ++ List.replicate (N - n) zero).drop (n + (List.replicate k x).length) = List.replicate (n + k) x ++ List.replicate (N - (n + k)) zero := by
  have h1 : (List.replicate n x ++ List.replicate (N - n) zero).take n = List.replicate n x := by
    rw [List.take_append_of_le_length (by simp), List.take_of_length_le (by simp)]
  have h2 : (List.replicate n x ++ List.replicate (N - n) zero).drop (n + k) = List.replicate (N - (n + k)) zero := by
    rw [List.drop_append, List.drop_of_length_le (by simp), List.nil_append, List.length_replicate, List.drop_replicate]
    congr 1
    omega
  rw [List.length_replicate, h1, h2, List.replicate_append_replicate]
theorem step_copyU {ops : Array Oper} {o : Oper} {a : Act} {w : World} {K : Act → World → Prop} {PQ : Exit → Act → World → Prop} {E : Prop} (hgd : o.guard = none) (d s : Operand)
    (ho : o.op = .call { callee := .builtin .copy, args := #[d, s], argTypes := #[23, 23] }) (b m dLen dCap sb so sLen sCap : Nat) (cur cs : List Q) (hd : a.eval d = .slice (some ⟨b, m * 5, none⟩) dLen dCap) (hs : a.eval s = .slice (some ⟨sb, so, none⟩) sLen sCap)
    (hk : KU w b cur) (hn : cs.length = Nat.min sLen dLen) (hfit : m + cs.length ≤ cur.length) (hsrc : Lies w sb so cs) (B : Nat) (w0 : World) (hb : Below B w0 w) (hBg : B ≤ b)
    (h : ∀ w', Hid (KU w' b (cur.take m ++ cs ++ cur.drop (m + cs.length))) → Below B w0 w' → K (a.put o.dst (goInt cs.length)) w') : if Region.wanted o (yielded ops a.tmps) = true then Oper.wp Tryz.prog o a w K PQ else E :=
  step_copyG hgd d s _ _ ho _ _ _ _ hd hs (copyU_run w o.type b m dLen dCap sb so sLen sCap cur cs hk hn hfit hsrc) (h _ (Lib.hid (hk.set _)) (KU.below hb hBg))
set_option maxHeartbeats 3200000 in
theorem repeat_any (g : Nat) (x : Q) (N : Nat) (w : World) (hg : Lies w g 0 [x]) (n1 : 1 ≤ N) (n2 : N ≤ 16) : Calls Tryz.prog 144 #[.slice (some ⟨g, 0, none⟩) 1 1, .int .i64 N] w fun e w' => (∃ b, e = .returned (.slice (some ⟨b, 0, none⟩) N N) ∧ KU w' b (List.replicate N x) ∧ w.heap.size ≤ b) ∧ Below w.heap.size w w' := by
  have c1 := fun W => mul_16 (N : Int) W (up16 (by omega) (by omega))
  have gl := World.block_lt_of_cell? w _ (hg 0 x rfl).1
  have mk := fun W => run_make_units N n2 W
  have e0 : IntKind.u64.wrap (N : Int) = (N : Int) := by unfold IntKind.wrap; simp [IntKind.bits, IntKind.signed]; omega
  have H := Lib.hid hg
  have i1 : (1 : Int) ≤ (N : Int) := by omega
  have i2 : (N : Int) ≤ 16 := by omega
  clear hg
  go_enter Tryz.func144, Tryz.ntmps144
  go_wp2_with (fail)
  refine (c1 _).mono ?_
  rintro e w1 ⟨rfl, hw1⟩
  have hs1 := hw1.size
  have mk1 := mk w1
  obtain ⟨ZS, hZS⟩ : ∃ ZS, ZS = ((List.replicate N zero).flatMap uc).toArray := ⟨_, rfl⟩
  rw [← hZS] at mk1
  have b1 : Below w.heap.size w (w1.alloc (.cells ZS 55)) := hw1.trans (ba1.mono hs1)
  have k0 : KU (w1.alloc (.cells ZS 55)) w1.heap.size (List.replicate N zero) := by rw [hZS]; exact World.alloc_heap_new w1 _
  have r1 := fun ty => copyU_run _ ty _ 0 N N g 0 1 1 (List.replicate N zero) [x] k0 (by show 1 = min 1 N; omega) (by simp; omega) ((H.out.later hw1).later ba1)
  have hrep : ((List.replicate N zero).take 0 ++ [x] ++ (List.replicate N zero).drop (0 + [x].length)) = List.replicate 1 x ++ List.replicate (N - 1) zero := by simp
  rw [hrep] at r1
  obtain ⟨CS, hCS⟩ : ∃ CS, CS = ((List.replicate 1 x ++ List.replicate (N - 1) zero).flatMap uc).toArray := ⟨_, rfl⟩
  rw [← hCS] at r1
  have b1' := Lib.hid (KU.below (cs := CS) b1 hs1)
  have K1' := Lib.hid (k0.set (List.replicate 1 x ++ List.replicate (N - 1) zero))
  rw [← hCS] at K1'
  have gle := hs1
  clear mk c1 hw1 b1 k0 gl hrep hCS hZS
  go_wp2
  clear mk1 r1
  generalize (w1.alloc (.cells ZS 55)).setRow w1.heap.size CS = y1 at *
  generalize w1.heap.size = b at *
  clear H
  go_loopw [8] (fun q wr => ∃ n : Nat, 1 ≤ n ∧ n ≤ N ∧ q = .int .i64 n ∧ Hid (KU wr b (List.replicate n x ++ List.replicate (N - n) zero)) ∧ Hid (Below w.heap.size w wr)) (fun q _ => N - (intOf q).toNat)
  case atStart => exact ⟨1, by omega, by omega, rfl, K1', b1'⟩
  case round =>
    obtain ⟨n, hn1, hn, rfl, HK, HB⟩ := hrel
    clear K1' b1'
    by_cases hlt : n < N
    · have e1 : ¬ (N = n) := by omega
      go_wp2
      obtain ⟨k, hk0, hk1, hk2⟩ : ∃ k : Nat, k = Nat.min n (N - n) ∧ 1 ≤ k ∧ n + k ≤ N := ⟨min n (N - n), rfl, by omega, by omega⟩
      have hl : Lies wr b 0 (List.replicate k x) := fun i y hy => HK.out.lies i y (by
        have hi : i < k := by have := (List.getElem?_eq_some_iff.1 hy).1; simpa using this
        have hkn : k ≤ n := by rw [hk0]; exact Nat.min_le_left _ _
        rw [List.getElem?_append_left (by simp; omega)]
        rw [List.getElem?_replicate, if_pos hi] at hy
        rw [List.getElem?_replicate, if_pos (by omega)]
        exact hy)
      have HLs := Lib.hid hl
      have hkl : (List.replicate k x).length = Nat.min n (N - n) := by rw [List.length_replicate]; exact hk0
      have hfit : n + (List.replicate k x).length ≤ (List.replicate n x ++ List.replicate (N - n) zero).length := by simp; omega
      have e3 : IntKind.i64.wrap ((n : Int) + (k : Int)) = ((n + k : Nat) : Int) := by rw [← Int.natCast_add]; exact IntWalk.i64_in _ (by omega)
      have HKL := Lib.hid hkl
      have HFT := Lib.hid hfit
      clear hl hkl hfit hk0
      go_region_law (refine step_copyU rfl (.tmp 41) (.tmp 44) rfl b n (N - n) (N - n) b 0 n N (List.replicate n x ++ List.replicate (N - n) zero) (List.replicate k x) (by simp [Act.eval, Act.put]) (by simp [Act.eval, Act.put]) HK.out HKL.out HFT.out HLs.out w.heap.size w (by first | exact HB.out | exact Below.drew HB.out) gle ?_; intro y2 Q2 P2; have B2 := Lib.hid P2)
      have hq := Q2.out
      rw [rep_copy x n N k hk2] at hq
      have HQ := Lib.hid hq
      clear hq Q2 P2
      go_wp2
      go_frame
      refine ⟨⟨.int .i64 ((n : Int) + (k : Int)), _, _, _, _, _, _, _, _, _, _, _, _, _, ⟨n + k, by omega, by omega, by rw [Int.natCast_add], HQ, B2⟩, rfl⟩, ?_⟩
      show N - (intOf (Value.int .i64 ((n : Int) + (k : Int)))).toNat < N - (intOf (Value.int .i64 (n : Int))).toNat
      simp [intOf]
      omega
    · obtain rfl : n = N := by omega
      have hk := HK.out
      rw [Nat.sub_self, List.replicate_zero, List.append_nil] at hk
      have HK2 := Lib.hid hk
      clear hk
      go_wp2
      go_ret
      exact ⟨⟨b, rfl, HK2.out, gle⟩, HB.out⟩
end Go.Proofs.YtkgihmhehkaocaaGreat

/- Which fields are small, as the document's answers find it.
Conditions: the list lies in memory as it is written at each theorem. -/
namespace Go.Proofs.YtkgihmhehkaocaaGreat
set_option linter.unusedVariables false
set_option linter.unusedSimpArgs false
set_option maxRecDepth 1000000
open Go.RowKit
open Um Tm

end Go.Proofs.YtkgihmhehkaocaaGreat

/- The transformation by 1, and which fields are small, as the program and the document's answers find it.
Conditions: those written at each theorem. -/
namespace Go.Proofs.YtkgihmhehkaocaaGreat
set_option linter.unusedVariables false
set_option linter.unusedSimpArgs false
set_option maxRecDepth 1000000
open Go.RowKit
open Um Tm

theorem lies1n {w : World} {T : TypeId} {x : Q} : Lies (w.alloc (.cells #[.int .i64 x.a, .int .i64 x.b, .int .i64 x.c, .int .i64 x.d, .int .i64 x.n] T)) w.heap.size 0 [x] := fun i u hu => by
  match i, hu with
  | 0, hu => simp at hu; subst hu; exact ⟨by simp [go_sem], by simp [go_sem], by simp [go_sem], by simp [go_sem], by simp [go_sem]⟩
  | n + 1, hu => simp at hu
set_option maxHeartbeats 1600000 in
theorem gaId_ok (a b c : Int) (N : Nat) (w : World) (hz : Sz a b c) (hN : (N : Int) = a * b * c) : Calls Tryz.prog 135 #[.agg #[.int .i64 a, .int .i64 b, .int .i64 c]] w fun e w' => (∃ g, e = .returned (.tuple #[.slice (some ⟨g, 0, none⟩) N N, .int .i64 0]) ∧ KU w' g (List.replicate N one) ∧ w.heap.size ≤ g) ∧ Below w.heap.size w w' := by
  have cS := fun (W : World) => sites_any a b c (N : Int) 0 W (.inr ⟨hz, hN, rfl⟩)
  obtain ⟨-, -, p3, -⟩ := mul_rng hz.a1 hz.a4 hz.b1 hz.b4 hz.c1 hz.c4
  have hp := hz.p
  have cR := fun (W : World) (g : Nat) (h : Lies W g 0 [one]) => repeat_any g one N W h (by omega) (by omega)
  clear hz hN p3 hp
  go_enter Tryz.func135, Tryz.ntmps135
  go_wp2_with (fail)
  refine (cS _).mono ?_
  rintro e w1 ⟨rfl, hw1⟩
  have b1 : Below w.heap.size w w1 := bel1 hw1
  have s1 := b1.size
  clear cS hw1
  go_wp2_with (fail)
  refine (cR _ _ lies1n).mono ?_
  rintro e w2 ⟨⟨g, rfl, hk, hg⟩, hw2⟩
  have HK := Lib.hid hk
  have b2 := b1.trans ((bel1 hw2).mono s1)
  have hg' : w.heap.size ≤ g := by simp at hg; omega
  clear hk hw2 hg b1
  go_wp2
  go_ret2
  exact ⟨⟨g, rfl, HK.out, hg'⟩, b2⟩
end Go.Proofs.YtkgihmhehkaocaaGreat

/- Which fields are small, as the program finds it: checkSmall of one field and of two.
Conditions: those written at each theorem. -/
namespace Go.Proofs.YtkgihmhehkaocaaGreat
set_option linter.unusedVariables false
set_option linter.unusedSimpArgs false
set_option maxRecDepth 1000000
open Go.RowKit
open Um Tm

set_option maxHeartbeats 3200000 in
theorem ckS1_any (a b c r : Int) (g : Nat) (ao : Option Addr) (cap : Nat) (L : List Q) (ns : List Int) (w : World) (hf : FW w g a b c (.slice ao L.length cap)) (h : LiesO w ao L) (hr : numsR a b c L ns r) (hlen : L.length ≤ 1000000) : Calls Tryz.prog 56 #[.slice (some ⟨g, 0, none⟩) 1 1] w fun e w' => e = .returned (.int .i64 r) ∧ Below w.heap.size w w' := by
  have H := Lib.hid h
  have F := Lib.hid hf
  rcases hr with ⟨hr, h0, -⟩ | ⟨hr, hs⟩
  · have c1 := fun (W : World) (h : LiesO W ao L) => validateF_any a b c r ao cap L W h hr hlen
    have h0' : (r != 0) = true := by simpa using h0
    clear h hf hr h0
    obtain ⟨f0, f1, f2, f3, ff, fl⟩ := F.out
    go_enter Tryz.func56, Tryz.ntmps56
    go_wp2
    refine wp_loop_rounds 2 ?_
    rw [rounds_succ]
    go_wp2_with (fail)
    refine (c1 _ (H.out.later ba1)).mono ?_
    rintro e w1 ⟨rfl, hw1⟩
    go_wp2
    go_ret
    exact ⟨rfl, bel1 hw1⟩
  · have c1 := fun (W : World) (h : LiesO W ao L) => validateF_any a b c 0 ao cap L W h hr hlen
    obtain ⟨q, hq, hqr⟩ : ∃ q, smR L ns q ∧ r = (if q = true then 0 else 7) := by
      rcases hs with ⟨h, rfl⟩ | ⟨h, rfl⟩
      · exact ⟨true, h, rfl⟩
      · exact ⟨false, h, rfl⟩
    have c2 := fun (W : World) (h : LiesO W ao L) => isSmall_ok a b c ao cap L ns q W h hr hq
    clear h hf hr hs hq
    obtain ⟨f0, f1, f2, f3, ff, fl⟩ := F.out
    go_enter Tryz.func56, Tryz.ntmps56
    go_wp2
    refine wp_loop_rounds 2 ?_
    rw [rounds_succ]
    go_wp2_with (fail)
    refine (c1 _ (H.out.later ba1)).mono ?_
    rintro e w1 ⟨rfl, hw1⟩
    have b1 := bel1 hw1
    clear hw1 c1 f0 f1 f2 f3 ff fl
    go_wp2
    rw [rounds_succ]
    obtain ⟨f0, f1, f2, f3, ff, fl⟩ := F.out.later b1
    go_wp2
    refine wp_loop_rounds 2 ?_
    rw [rounds_succ]
    go_wp2_with (fail)
    refine (c2 _ (H.out.later (b1.trans (ba1.mono b1.size)))).mono ?_
    rintro e w2 ⟨rfl, hw2⟩
    have b2 := b1.trans ((bel1 hw2).mono b1.size)
    clear hw2 c2 f0 f1 f2 f3 ff fl b1
    cases q
    · obtain rfl : r = 7 := hqr
      go_wp2
      go_ret
      exact ⟨rfl, b2⟩
    · obtain rfl : r = 0 := hqr
      go_wp2
      rw [rounds_succ]
      go_wp2
      go_ret
      exact ⟨rfl, b2⟩

/-- two fields in one block -/
structure F2 (w : World) (g : Nat) (a b c : Int) (v : Value) (a' b' c' : Int) (v' : Value) : Prop where
  c0 : w.cell? ⟨g, 0, none⟩ = some (.int .i64 a)
  c1 : w.cell? ⟨g, 1, none⟩ = some (.int .i64 b)
  c2 : w.cell? ⟨g, 2, none⟩ = some (.int .i64 c)
  c3 : w.cell? ⟨g, 3, none⟩ = some v
  c4 : w.cell? ⟨g, 4, none⟩ = some (.int .i64 a')
  c5 : w.cell? ⟨g, 5, none⟩ = some (.int .i64 b')
  c6 : w.cell? ⟨g, 6, none⟩ = some (.int .i64 c')
  c7 : w.cell? ⟨g, 7, none⟩ = some v'
theorem F2.later {w w1 : World} {g : Nat} {a b c : Int} {v : Value} {a' b' c' : Int} {v' : Value} (h : F2 w g a b c v a' b' c' v') (hb : Below w.heap.size w w1) : F2 w1 g a b c v a' b' c' v' :=
  ⟨held_belowG hb h.c0, held_belowG hb h.c1, held_belowG hb h.c2, held_belowG hb h.c3, held_belowG hb h.c4, held_belowG hb h.c5, held_belowG hb h.c6, held_belowG hb h.c7⟩
/-- the error of two fields that must be small -/
def prR (a b c : Int) (L : List Q) (ms : List Int) (a' b' c' : Int) (M : List Q) (ns : List Int) (r : Int) : Prop :=
  (fldR a b c L r ∧ r ≠ 0) ∨ (fldR a b c L 0 ∧ fldR a' b' c' M r ∧ r ≠ 0) ∨ (fldR a b c L 0 ∧ fldR a' b' c' M 0 ∧ ∃ q1 q2 : Bool, smR L ms q1 ∧ smR M ns q2 ∧ r = if q1 = true ∧ q2 = true then 0 else 7)
set_option maxHeartbeats 6400000 in
theorem ckS2_any (a b c a' b' c' r : Int) (g : Nat) (ao bo : Option Addr) (cap cap' : Nat) (L M : List Q) (ms ns : List Int) (w : World) (hf : F2 w g a b c (.slice ao L.length cap) a' b' c' (.slice bo M.length cap')) (h : LiesO w ao L) (h' : LiesO w bo M) (hr : prR a b c L ms a' b' c' M ns r) (hlen : L.length ≤ 1000000) (hlen' : M.length ≤ 1000000) : Calls Tryz.prog 56 #[.slice (some ⟨g, 0, none⟩) 2 2] w fun e w' => e = .returned (.int .i64 r) ∧ Below w.heap.size w w' := by
  have H := Lib.hid h
  have H' := Lib.hid h'
  have F := Lib.hid hf
  rcases hr with ⟨hr, h0⟩ | ⟨hr, hr', h0⟩ | ⟨hr, hr', q1, q2, hq1, hq2, hqr⟩
  · have c1 := fun (W : World) (h : LiesO W ao L) => validateF_any a b c r ao cap L W h hr hlen
    have h0' : (r != 0) = true := by simpa using h0
    clear h hf hr h0 h'
    obtain ⟨f0, f1, f2, f3, f4, f5, f6, f7⟩ := F.out
    go_enter Tryz.func56, Tryz.ntmps56
    go_wp2
    refine wp_loop_rounds 3 ?_
    rw [rounds_succ]
    have fl := World.block_lt_of_cell? _ _ f0
    go_wp2_with (fail)
    refine (c1 _ (H.out.later ba1)).mono ?_
    rintro e w1 ⟨rfl, hw1⟩
    go_wp2
    go_ret
    exact ⟨rfl, bel1 hw1⟩
  · have c1 := fun (W : World) (h : LiesO W ao L) => validateF_any a b c 0 ao cap L W h hr hlen
    have c2 := fun (W : World) (h : LiesO W bo M) => validateF_any a' b' c' r bo cap' M W h hr' hlen'
    have h0' : (r != 0) = true := by simpa using h0
    clear h hf hr hr' h0 h'
    obtain ⟨f0, f1, f2, f3, f4, f5, f6, f7⟩ := F.out
    go_enter Tryz.func56, Tryz.ntmps56
    go_wp2
    refine wp_loop_rounds 3 ?_
    rw [rounds_succ]
    have fl := World.block_lt_of_cell? _ _ f0
    go_wp2_with (fail)
    refine (c1 _ (H.out.later ba1)).mono ?_
    rintro e w1 ⟨rfl, hw1⟩
    have b1 := bel1 hw1
    clear hw1 c1 f0 f1 f2 f3 f4 f5 f6 f7 fl
    go_wp2
    rw [rounds_succ]
    obtain ⟨f0, f1, f2, f3, f4, f5, f6, f7⟩ := F.out.later b1
    have fl := World.block_lt_of_cell? _ _ f0
    go_wp2_with (fail)
    refine (c2 _ (H'.out.later (b1.trans (ba1.mono b1.size)))).mono ?_
    rintro e w2 ⟨rfl, hw2⟩
    go_wp2
    go_ret
    exact ⟨rfl, b1.trans ((bel1 hw2).mono b1.size)⟩
  · have c1 := fun (W : World) (h : LiesO W ao L) => validateF_any a b c 0 ao cap L W h hr hlen
    have c2 := fun (W : World) (h : LiesO W bo M) => validateF_any a' b' c' 0 bo cap' M W h hr' hlen'
    have c3 := fun (W : World) (h : LiesO W ao L) => isSmall_ok a b c ao cap L ms q1 W h hr hq1
    have c4 := fun (W : World) (h : LiesO W bo M) => isSmall_ok a' b' c' bo cap' M ns q2 W h hr' hq2
    have HQ := Lib.hid hqr
    clear h hf hr hr' h' hq1 hq2 hqr
    obtain ⟨f0, f1, f2, f3, f4, f5, f6, f7⟩ := F.out
    go_enter Tryz.func56, Tryz.ntmps56
    go_wp2
    refine wp_loop_rounds 3 ?_
    rw [rounds_succ]
    have fl := World.block_lt_of_cell? _ _ f0
    go_wp2_with (fail)
    refine (c1 _ (H.out.later ba1)).mono ?_
    rintro e w1 ⟨rfl, hw1⟩
    have b1 := bel1 hw1
    clear hw1 c1 f0 f1 f2 f3 f4 f5 f6 f7 fl
    go_wp2
    rw [rounds_succ]
    obtain ⟨f0, f1, f2, f3, f4, f5, f6, f7⟩ := F.out.later b1
    have fl := World.block_lt_of_cell? _ _ f0
    go_wp2_with (fail)
    refine (c2 _ (H'.out.later (b1.trans (ba1.mono b1.size)))).mono ?_
    rintro e w2 ⟨rfl, hw2⟩
    have b2 := b1.trans ((bel1 hw2).mono b1.size)
    clear hw2 c2 f0 f1 f2 f3 f4 f5 f6 f7 fl b1
    go_wp2
    rw [rounds_succ]
    obtain ⟨f0, f1, f2, f3, f4, f5, f6, f7⟩ := F.out.later b2
    have fl := World.block_lt_of_cell? _ _ f0
    go_wp2
    refine wp_loop_rounds 3 ?_
    rw [rounds_succ]
    go_wp2_with (fail)
    refine (c3 _ (H.out.later (b2.trans (ba1.mono b2.size)))).mono ?_
    rintro e w3 ⟨rfl, hw3⟩
    have b3 := b2.trans ((bel1 hw3).mono b2.size)
    clear hw3 c3 f0 f1 f2 f3 f4 f5 f6 f7 fl b2
    cases q1
    · obtain rfl : r = 7 := by have := HQ.out; simpa using this
      go_wp2
      go_ret
      exact ⟨rfl, b3⟩
    · go_wp2
      rw [rounds_succ]
      obtain ⟨f0, f1, f2, f3, f4, f5, f6, f7⟩ := F.out.later b3
      have fl := World.block_lt_of_cell? _ _ f0
      go_wp2_with (fail)
      refine (c4 _ (H'.out.later (b3.trans (ba1.mono b3.size)))).mono ?_
      rintro e w4 ⟨rfl, hw4⟩
      have b4 := b3.trans ((bel1 hw4).mono b3.size)
      clear hw4 c4 f0 f1 f2 f3 f4 f5 f6 f7 fl b3
      cases q2
      · obtain rfl : r = 7 := by have := HQ.out; simpa using this
        go_wp2
        go_ret
        exact ⟨rfl, b4⟩
      · obtain rfl : r = 0 := by have := HQ.out; simpa using this
        go_wp2
        rw [rounds_succ]
        go_wp2
        go_ret
        exact ⟨rfl, b4⟩
end Go.Proofs.YtkgihmhehkaocaaGreat
