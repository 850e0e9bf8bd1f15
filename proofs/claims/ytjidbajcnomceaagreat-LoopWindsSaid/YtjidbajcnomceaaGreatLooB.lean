/- Paths are compared without a trace in memory; the order of terms by their paths.
Conditions: those written at each theorem. -/
import Derived.Test.YtjidbajcnomceaaGreatLooA
import Derived.Shelf.SlSortCmp.Insertion
import Derived.Maps.RangeWalk
import Derived.Maps.Ext
import Derived.DeepKeys4
import Derived.Laws.IdiomCopy
import Derived.Laws.CopyRow
import Derived.Shelf.SlSortCmp.WholeK
import Derived.Ground.SlsfProg
import Derived.Test.YtjidbajcnomceaaGreatProg
import Derived.Deep.WholeRow
import Derived.Maps.OwnSet
namespace Go.Proofs.YtjidbajcnomceaaGreat
set_option linter.unusedVariables false
set_option linter.unusedSimpArgs false
set_option maxRecDepth 1000000
open Go.RowKit
open Um Tm Lm

theorem isNaN_same (x : Int) (w : World) : Calls Tryz.prog 156 #[.int .i64 x] w fun e w' => e = .returned (.bool false) ∧ w = w' := by
  go_enter Tryz.func156, Tryz.ntmps156
  go_wp2
  go_ret
  exact ⟨by simp, rfl⟩
theorem cmpInt_same (x y : Int) (w : World) : Calls Tryz.prog 136 #[.int .i64 x, .int .i64 y] w fun e w' => e = .returned (.int .i64 (cmpI x y)) ∧ w = w' := by
  have c1 := fun (W : World) => isNaN_same x W
  have c2 := fun (W : World) => isNaN_same y W
  unfold cmpI
  by_cases h1 : x < y
  · rw [if_pos h1]
    go_enter Tryz.func136, Tryz.ntmps136
    go_wp2_with (first | ((with_reducible refine (c1 _).mono ?_); clear c1; rintro e w1 ⟨rfl, rfl⟩) | ((with_reducible refine (c2 _).mono ?_); clear c2; rintro e w2 ⟨rfl, rfl⟩))
    go_ret
    exact ⟨rfl, rfl⟩
  · rw [if_neg h1]
    by_cases h2 : y < x
    · rw [if_pos h2]
      go_enter Tryz.func136, Tryz.ntmps136
      go_wp2_with (first | ((with_reducible refine (c1 _).mono ?_); clear c1; rintro e w1 ⟨rfl, rfl⟩) | ((with_reducible refine (c2 _).mono ?_); clear c2; rintro e w2 ⟨rfl, rfl⟩))
      go_ret
      exact ⟨rfl, rfl⟩
    · rw [if_neg h2]
      go_enter Tryz.func136, Tryz.ntmps136
      go_wp2_with (first | ((with_reducible refine (c1 _).mono ?_); clear c1; rintro e w1 ⟨rfl, rfl⟩) | ((with_reducible refine (c2 _).mono ?_); clear c2; rintro e w2 ⟨rfl, rfl⟩))
      go_ret
      exact ⟨rfl, rfl⟩

set_option maxHeartbeats 1600000 in
theorem compare_same (a1 a2 : Option Addr) (c1 c2 : Nat) (l m : List Int) (w : World) (h1 : LiesOI w a1 l) (h2 : LiesOI w a2 m) (n1 : l.length ≤ 1000000) (n2 : m.length ≤ 1000000) : Calls Tryz.prog 115 #[.slice a1 l.length c1, .slice a2 m.length c2] w fun e w' => e = .returned (.int .i64 (cmpL l m)) ∧ w = w' := by
  have cC := cmpInt_same
  have H1 := Lib.hid h1
  have H2 := Lib.hid h2
  have hr := cmpL_rng l m
  obtain ⟨r, hR⟩ : ∃ r, r = cmpL l m := ⟨_, rfl⟩
  rw [← hR] at hr ⊢
  have HR0 : Hid (r = cmpL (l.drop 0) (m.drop 0)) := Lib.hid (by simpa using hR)
  clear h1 h2 hR hr
  go_enter Tryz.func115, Tryz.ntmps115
  go_wp2
  go_loop [5, 6, 7, 8, 11] (fun _ _ _ _ q => ∃ k : Nat, k ≤ l.length ∧ k ≤ m.length ∧ q = .int .i64 k ∧ Hid (r = cmpL (l.drop k) (m.drop k))) (fun _ _ _ _ q => l.length - (intOf q).toNat)
  case atStart => exact ⟨0, by omega, by omega, rfl, HR0⟩
  case round =>
    obtain ⟨k, k1, k2, rfl, HR⟩ := hrel
    clear HR0
    by_cases hlt : k < l.length
    · have i1 : (k : Int) < (l.length : Int) := by omega
      have hx : l[k]? = some l[k] := List.getElem?_eq_getElem hlt
      obtain ⟨b1, o1, rfl, hl1⟩ : ∃ b o, a1 = some ⟨b, o, none⟩ ∧ LiesI w b o l := by
        rcases H1.out with h | h
        · subst h; simp at hlt
        · exact h
      have x0 := hl1 k _ hx
      by_cases hlt2 : k < m.length
      · have i2 : ¬ (m.length : Int) ≤ (k : Int) := by omega
        have i3 : (k : Int) < (m.length : Int) := by omega
        have hy : m[k]? = some m[k] := List.getElem?_eq_getElem hlt2
        obtain ⟨b2, o2, rfl, hl2⟩ : ∃ b o, a2 = some ⟨b, o, none⟩ ∧ LiesI w b o m := by
          rcases H2.out with h | h
          · subst h; simp at hlt2
          · exact h
        have y0 := hl2 k _ hy
        have hd := cmpL_drop l m k hlt hlt2
        generalize l[k] = x at *
        generalize m[k] = y at *
        have HD := Lib.hid hd
        clear hl1 hl2 hd hx hy
        by_cases hc : cmpI x y = 0
        · have HC := Lib.hid hc
          have cC' := fun W : World => cC x y W
          rw [hc] at cC'
          clear hc cC
          go_wp2_with ((with_reducible refine (cC' _).mono ?_); rintro e w1 ⟨rfl, rfl⟩)
          go_round
          case rel => exact ⟨k + 1, by omega, by omega, by go_num, Lib.hid (by rw [HR.out, HD.out, if_pos HC.out])⟩
          case measure => simp [intOf]; omega
        · have hrng := cmpI_rng x y
          have e2 : r = cmpI x y := by rw [HR.out, HD.out, if_neg hc]
          have cC' := fun W : World => cC x y W
          rw [← e2] at cC' hrng hc
          have q1 : (r != 0) = true := by simpa using hc
          clear e2 hrng hc cC
          go_wp2_with ((with_reducible refine (cC' _).mono ?_); rintro e w1 ⟨rfl, rfl⟩)
          go_ret
          exact ⟨rfl, rfl⟩
      · have i2 : (m.length : Int) ≤ (k : Int) := by omega
        have e2 : r = 1 := by rw [HR.out]; exact cmpL_over l m k hlt (by omega)
        subst e2
        clear hl1 hx
        go_wp2
        go_ret
        exact ⟨rfl, rfl⟩
    · obtain rfl : k = l.length := by omega
      by_cases hlt2 : l.length < m.length
      · have e2 : r = -1 := by rw [HR.out, cmpL_end l m _ (Nat.le_refl _), if_pos hlt2]
        subst e2
        go_wp2
        go_ret
        exact ⟨rfl, rfl⟩
      · have e2 : r = 0 := by rw [HR.out, cmpL_end l m _ (Nat.le_refl _), if_neg hlt2]
        subst e2
        go_wp2
        go_ret
        exact ⟨rfl, rfl⟩

theorem closure_lays (e f : E) (w : World) (h1 : LiesOI w e.a e.p) (h2 : LiesOI w f.a f.p) (n1 : e.p.length ≤ 1000) (n2 : f.p.length ≤ 1000) : Calls Tryz.prog 114 #[.agg (ec e).toArray, .agg (ec f).toArray] w fun r w' => r = .returned (.int .i64 (cmpL e.p f.p)) ∧ ∃ q os', w' = Sort.grow (w.drewN q) os' := by
  obtain ⟨c, p, a, k⟩ := e
  obtain ⟨d, q, b, m⟩ := f
  simp only at *
  show Calls Tryz.prog 114 #[.agg #[.int .i64 c, .slice a p.length k], .agg #[.int .i64 d, .slice b q.length m]] w _
  have cC := fun W h1 h2 => compare_same a b k m p q W h1 h2 (by omega) (by omega)
  have H1 := Lib.hid h1
  have H2 := Lib.hid h2
  clear h1 h2
  generalize cmpL p q = r at *
  go_enter Tryz.func114, Tryz.ntmps114
  go_wp2_with ((with_reducible refine (cC _ (H1.out.later (by repeat (first | (with_reducible exact Below.refl _ _) | (with_reducible refine Below.setCell ?_ ?_ _) | (with_reducible refine Below.drew ?_) | (with_reducible refine Below.alloc ?_ ?_ _) | omega | (simp <;> omega)))) (H2.out.later (by repeat (first | (with_reducible exact Below.refl _ _) | (with_reducible refine Below.setCell ?_ ?_ _) | (with_reducible refine Below.drew ?_) | (with_reducible refine Below.alloc ?_ ?_ _) | omega | (simp <;> omega))))).mono ?_); rintro e w1 ⟨rfl, rfl⟩)
  go_ret
  exact ⟨rfl, 0, _, by rw [Sort.alloc_eq_grow, Sort.alloc_eq_grow, Sort.grow_grow]; rfl⟩
end Go.Proofs.YtjidbajcnomceaaGreat

/- Paths as keys of a map, and what the map of plain paths holds.
Conditions: those written at each theorem. -/
namespace Go.Proofs.YtjidbajcnomceaaGreat
set_option linter.unusedVariables false
set_option linter.unusedSimpArgs false
set_option maxRecDepth 1000000
open Go.RowKit
open Um Tm Lm

def unv : Value → Int
  | .int _ n => n
  | _ => 0
theorem map_vi {l m : List Int} (h : l.map vi = m.map vi) : l = m := by
  have h2 := congrArg (List.map unv) h
  have e : ∀ l : List Int, (l.map vi).map unv = l := fun l => by
    rw [List.map_map]
    exact (List.map_congr_left (fun _ _ => rfl)).trans (List.map_id _)
  rwa [e, e] at h2
/-- a path as a key: with zeros behind it -/
def padI (p : List Int) : List Int := p ++ List.replicate (16 - p.length) 0
theorem padI_len {p : List Int} (h : p.length ≤ 16) : (padI p).length = 16 := by simp [padI]; omega
theorem padI_take (p : List Int) (h : ∀ t ∈ p, t ≠ 0) : (padI p).takeWhile (fun t => t ≠ 0) = p := by
  unfold padI
  rw [List.takeWhile_append]
  have e : p.takeWhile (fun t => decide (t ≠ 0)) = p := by
    induction p with
    | nil => rfl
    | cons x p ih =>
      rw [List.takeWhile_cons, if_pos (by simpa using h x (by simp)), ih fun t ht => h t (by simp [ht])]
  rw [e, if_pos rfl]
  cases hn : 16 - p.length with
  | zero => simp
  | succ n => simp [List.replicate_succ]
theorem padI_inj {p q : List Int} (hp : ∀ t ∈ p, t ≠ 0) (hq : ∀ t ∈ q, t ≠ 0) (h : padI p = padI q) : p = q := by
  rw [← padI_take p hp, ← padI_take q hq, h]
def kv (p : List Int) : Value := .agg ((padI p).map vi).toArray
theorem key_wide : (match Tryz.prog.underlying 149 with | some (.array _ _) | some (.struct _) => true | _ => false) = true := by kernel_rfl
theorem key_law : Go.Maps.Keyed Tryz.prog 149 := Go.Maps.Keyed.of_law (deep_law_laid (by kernel_rfl) (m := 3) (by omega) (of_decide_eq_true (by kernel_rfl)) (by kernel_rfl) key_wide)
theorem list16 {l : List Int} (h : l.length = 16) : ∃ x0 x1 x2 x3 x4 x5 x6 x7 x8 x9 x10 x11 x12 x13 x14 x15 : Int, l = [x0, x1, x2, x3, x4, x5, x6, x7, x8, x9, x10, x11, x12, x13, x14, x15] := by
  match l, h with
  | [x0, x1, x2, x3, x4, x5, x6, x7, x8, x9, x10, x11, x12, x13, x14, x15], _ => exact ⟨_, _, _, _, _, _, _, _, _, _, _, _, _, _, _, _, rfl⟩
theorem key_type : Tryz.prog.keyType 149 = true := by kernel_rfl
theorem key_under : Tryz.prog.underlying 149 = some (.array 16 3) := by kernel_rfl
theorem key_cells : Tryz.prog.cellsOf 149 = 16 := by kernel_rfl
theorem int_cells : Tryz.prog.cellsOf 3 = 1 := by kernel_rfl
theorem int_under : Tryz.prog.underlying 3 = some (.int .i64) := by kernel_rfl
theorem key_some {l : List Int} (h : l.length = 16) (hw : ∀ x ∈ l, (Lit.int .i64 x).wf = true) : ∃ kl, keyOf Tryz.prog 149 (.agg (l.map vi).toArray) = some kl := by
  have hs : ∃ n, Tryz.prog.types.size + 1 = n + 2 := ⟨Tryz.prog.types.size - 1, by
    have : 1 ≤ Tryz.prog.types.size := of_decide_eq_true (by kernel_rfl)
    omega⟩
  obtain ⟨n, hn⟩ := hs
  have hL : ∃ ls, Tryz.prog.keyLits (n + 2) 149 (l.map vi) = some ls := by
    unfold Program.keyLits
    simp only [key_under, key_cells, int_cells]
    rw [if_pos (by simp [h])]
    have : ∀ m : List Nat, (∀ i ∈ m, i < 16) → ∃ r, (m.mapM fun i => Tryz.prog.keyLits (n + 1) 3 (((l.map vi).drop (i * 1)).take 1)) = some r := fun m => by
      induction m with
      | nil => intro _; exact ⟨[], rfl⟩
      | cons i m ih =>
        intro hm
        obtain ⟨r, hr⟩ := ih fun j hj => hm j (by simp [hj])
        have hi : i < l.length := by rw [h]; exact hm i (by simp)
        have e : ((l.map vi).drop (i * 1)).take 1 = [.int .i64 l[i]] := by
          rw [Nat.mul_one, List.drop_eq_getElem_cons (by simpa using hi)]
          simp [vi]
        have hk : Tryz.prog.keyLits (n + 1) 3 [.int .i64 l[i]] = some [.int .i64 l[i]] := by
          unfold Program.keyLits
          simp only [int_under]
          rw [if_pos ⟨trivial, hw _ (List.getElem_mem hi)⟩]
        refine ⟨[.int .i64 l[i]] :: r, ?_⟩
        rw [List.mapM_cons, e, hk, hr]
        rfl
    obtain ⟨r, hr⟩ := this (List.range 16) (fun i hi => by simpa using hi)
    rw [hr]
    exact ⟨_, rfl⟩
  obtain ⟨ls, hls⟩ := hL
  unfold keyOf
  simp only [key_under, key_type, Bool.true_and]
  have hf : (Value.agg (l.map vi).toArray).formed Tryz.prog 149 = true := by simp [Value.formed, key_under, key_cells, h]
  rw [if_pos hf, hn]
  have ec : (Value.agg (l.map vi).toArray).cells.toList = l.map vi := by simp [Value.cells]
  rw [ec, hls]
  exact ⟨_, rfl⟩
noncomputable def klOf (p : List Int) : Lit := (keyOf Tryz.prog 149 (kv p)).getD .nil
/-- what a path must be for a key -/
structure Kp (p : List Int) : Prop where
  len : p.length ≤ 16
  st : ∀ t ∈ p, IsStep t
theorem Kp.key {p : List Int} (h : Kp p) : keyOf Tryz.prog 149 (kv p) = some (klOf p) := by
  obtain ⟨kl, hk⟩ := key_some (padI_len h.len) (fun x hx => by
    have : -3 ≤ x ∧ x ≤ 3 := by
      unfold padI at hx
      rcases List.mem_append.1 hx with hx | hx
      · have := h.st x hx; exact ⟨this.2.1, this.2.2⟩
      · have := List.eq_of_mem_replicate hx; omega
    have h1 : IntKind.i64.min = -9223372036854775808 := by decide
    have h2 : IntKind.i64.max = 9223372036854775807 := by decide
    simp [Lit.wf, h1, h2]
    omega)
  have : keyOf Tryz.prog 149 (kv p) = some kl := hk
  unfold klOf
  rw [this]
  rfl
theorem Kp.inj {p q : List Int} (hp : Kp p) (hq : Kp q) (h : klOf p = klOf q) : p = q := by
  have h1 := hp.key
  have h2 := hq.key
  rw [← h] at h2
  have h3 : kv p = kv q := key_law.inj h1 h2
  have h4 : padI p = padI q := by
    unfold kv at h3
    injection h3 with h3
    have h5 : (padI p).map vi = (padI q).map vi := by simpa using h3
    exact map_vi h5
  exact padI_inj (fun t ht => (hp.st t ht).1) (fun t ht => (hq.st t ht).1) h4
theorem Kp.isKey {p : List Int} (h : Kp p) : WideAt.IsKeyLit (klOf p) := key_law.key h.key

/-- how an element of the map reads: as itself -/
def rT (v : Value) : Option (DataW Value × List MemPlace) := match v with
  | .agg cs => (match cs.toList with | [.int .i64 _, .slice _ _ _] => some (.held v, []) | _ => none)
  | _ => none
theorem rT_mk (c : Int) (a : Option Addr) (n k : Nat) : rT (.agg #[.int .i64 c, .slice a n k]) = some (.held (.agg #[.int .i64 c, .slice a n k]), []) := rfl
theorem rT_inv {v : Value} {y : DataW Value × List MemPlace} (h : rT v = some y) : ∃ (x : Int × Option Addr × Nat × Nat), v = .agg #[.int .i64 x.1, .slice x.2.1 x.2.2.1 x.2.2.2] ∧ y = (.held v, []) := by
  unfold rT at h
  split at h
  · rename_i cs
    split at h
    · rename_i c a n k hcs
      refine ⟨(c, a, n, k), ?_, by cases h; rfl⟩
      have : cs = #[.int .i64 c, .slice a n k] := by
        apply Array.ext'
        simpa using hcs
      rw [this]
    · cases h
  · cases h
def ev (e : E) : Value := .agg #[.int .i64 e.c, .slice e.a e.p.length e.k]
theorem rT_ev (e : E) : rT (ev e) = some (.held (ev e), []) := rfl
theorem zeroT (w : World) : (zeroValue 60).run Tryz.prog w = .ok (.agg #[.int .i64 0, .slice none 0 0]) w := by kernel_rfl
theorem underM : Tryz.prog.underlying 146 = some (.map 149 60) := by kernel_rfl

/-- what the map holds: the coefficients that have been collected, each with its path -/
structure Mp (w : World) (B : Nat) (D : DataW Value) (o : List Trm) : Prop where
  all : ∀ kl, Maps.has D kl = true → ∃ e : E, kl = klOf e.p ∧ (∀ z, D.atKey kl z = .held (ev e)) ∧ Lm.look e.p o = some e.c ∧ Kp e.p ∧ LiesNI w B e.a e.p
  mem : ∀ p c, Lm.look p o = some c → Kp p → Maps.has D (klOf p) = true
  kp : ∀ p c, Lm.look p o = some c → Kp p
theorem Mp.later {w w1 : World} {B : Nat} {D : DataW Value} {o : List Trm} (h : Mp w B D o) (hb : Below w.heap.size w w1) : Mp w1 B D o :=
  ⟨fun kl hk => by
    obtain ⟨e, h1, h2, h3, h4, h5⟩ := h.all kl hk
    exact ⟨e, h1, h2, h3, h4, h5.later hb⟩, h.mem, h.kp⟩
theorem Mp.grown {w w1 : World} {B g : Nat} {D : DataW Value} {o : List Trm} (h : Mp w B D o) (hg : w.grownBy w1 (some g)) (hlt : g < B) : Mp w1 B D o :=
  ⟨fun kl hk => by
    obtain ⟨e, h1, h2, h3, h4, h5⟩ := h.all kl hk
    exact ⟨e, h1, h2, h3, h4, h5.grown hg hlt⟩, h.mem, h.kp⟩
theorem Mp.empty (w : World) (B : Nat) : Mp w B (.map []) [] := ⟨fun kl h => (by cases h), fun p c h => (by cases h), fun p c h => (by cases h)⟩
def addO (q : Option Int) (c : Int) : Int := match q with
  | none => c
  | some d => ad d c
/-- a term is added: the sum is laid under its path -/
theorem Mp.put {w : World} {B : Nat} {D : DataW Value} {o : List Trm} (h : Mp w B D o) (ho : Asc o) (hD : Maps.IsMap D) (e : E) (c : Int) (hp : Kp e.p) (hl : LiesNI w B e.a e.p) (hc : e.c = addO (Lm.look e.p o) c) :
    Mp w B (D.put (klOf e.p) (.held (ev e))) (ins (c, e.p) o) := by
  have hlk : ∀ q, Lm.look q (ins (c, e.p) o) = if e.p = q then some e.c else Lm.look q o := fun q => by
    rw [look_ins q (c, e.p) o ho]
    by_cases he : e.p = q
    · subst he
      rw [if_pos rfl, if_pos rfl, hc]
      cases Lm.look e.p o <;> rfl
    · rw [if_neg he, if_neg he]
  refine ⟨fun kl hk => ?_, fun p d hd hkp => ?_, fun p d hd => ?_⟩
  · by_cases he : kl = klOf e.p
    · subst he
      exact ⟨e, rfl, fun z => Maps.atKey_put_same hD hp.isKey _ z, by rw [hlk, if_pos rfl], hp, hl⟩
    · rw [Maps.has_put_other he] at hk
      obtain ⟨f, h1, h2, h3, h4, h5⟩ := h.all kl hk
      refine ⟨f, h1, fun z => by rw [Maps.atKey_put_other he]; exact h2 z, ?_, h4, h5⟩
      rw [hlk, if_neg fun e' => he (by rw [h1, e'])]
      exact h3
  · rw [hlk] at hd
    by_cases he : e.p = p
    · subst he
      exact Maps.has_put_same hD hp.isKey _
    · rw [if_neg he] at hd
      rw [Maps.has_put_other fun e' => he (hkp.inj hp e').symm]
      exact h.mem p d hd hkp
  · rw [hlk] at hd
    by_cases he : e.p = p
    · subst he; exact hp
    · rw [if_neg he] at hd
      exact h.kp p d hd
end Go.Proofs.YtjidbajcnomceaaGreat

/- What a function of Go's library does at this program, applied from the library's contract.
Conditions: those of the contract. -/
namespace Go.Proofs.YtjidbajcnomceaaGreat
set_option linter.unusedVariables false
set_option linter.unusedSimpArgs false
set_option maxRecDepth 1000000
open Go.Shelf Go.Proofs
def sortT_ren : Go.Shelf.Ren := ⟨fun | 6 => 113 | 15 => 135 | 14 => 134 | 28 => 154 | 29 => 155 | 20 => 146 | 21 => 147 | 22 => 148 | 23 => 149 | 24 => 150 | 25 => 151 | 26 => 152 | 27 => 153 | 46 => 161 | 47 => 162 | 48 => 163 | 49 => 164 | 50 => 165 | 57 => 166 | n => n, fun | 22 => 53 | 24 => 60 | 25 => 152 | 3 => 3 | 39 => 140 | 0 => 0 | 53 => 163 | 55 => 166 | 4 => 4 | 46 => 180 | 45 => 179 | 50 => 184 | 5 => 5 | 9 => 9 | 66 => 190 | 70 => 194 | 76 => 196 | 77 => 197 | n => n, fun | n => n⟩
theorem sortT : Go.Proofs.SlLaysF0.n6 Tryz.prog sortT_ren := {
  mixed := by kernel_rfl
  f6 := ⟨Tryz.f113.name, by decide, Tryz.func113.trans (congrArg some (by kernel_rfl))⟩
  f14 := ⟨Tryz.f134.name, by decide, Tryz.func134.trans (congrArg some (by kernel_rfl))⟩
  f15 := Tryz.func135.trans (congrArg some (by kernel_rfl))
  f20 := ⟨Tryz.f146.name, by decide, Tryz.func146.trans (congrArg some (by kernel_rfl))⟩
  f21 := ⟨Tryz.f147.name, by decide, Tryz.func147.trans (congrArg some (by kernel_rfl))⟩
  f22 := ⟨Tryz.f148.name, by decide, Tryz.func148.trans (congrArg some (by kernel_rfl))⟩
  f23 := ⟨Tryz.f149.name, by decide, Tryz.func149.trans (congrArg some (by kernel_rfl))⟩
  f24 := ⟨Tryz.f150.name, by decide, Tryz.func150.trans (congrArg some (by kernel_rfl))⟩
  f25 := ⟨Tryz.f151.name, by decide, Tryz.func151.trans (congrArg some (by kernel_rfl))⟩
  f26 := ⟨Tryz.f152.name, by decide, Tryz.func152.trans (congrArg some (by kernel_rfl))⟩
  f27 := ⟨Tryz.f153.name, by decide, Tryz.func153.trans (congrArg some (by kernel_rfl))⟩
  f28 := Tryz.func154.trans (congrArg some (by kernel_rfl))
  f29 := Tryz.func155.trans (congrArg some (by kernel_rfl))
  f46 := ⟨Tryz.f161.name, by decide, Tryz.func161.trans (congrArg some (by kernel_rfl))⟩
  f47 := Tryz.func162.trans (congrArg some (by kernel_rfl))
  f48 := Tryz.func163.trans (congrArg some (by kernel_rfl))
  f49 := ⟨Tryz.f164.name, by decide, Tryz.func164.trans (congrArg some (by kernel_rfl))⟩
  f50 := ⟨Tryz.f165.name, by decide, Tryz.func165.trans (congrArg some (by kernel_rfl))⟩
  f57 := ⟨Tryz.f166.name, by decide, Tryz.func166.trans (congrArg some (by kernel_rfl))⟩
  t0 := Tryz.underlying0
  a0 := Tryz.isAgg0
  z0 := Tryz.sizeOf0
  v0 := Tryz.zeroValue0
  t3 := Tryz.underlying3
  a3 := Tryz.isAgg3
  z3 := Tryz.sizeOf3
  v3 := Tryz.zeroValue3
  t4 := Tryz.underlying4
  a4 := Tryz.isAgg4
  z4 := Tryz.sizeOf4
  v4 := Tryz.zeroValue4
  t5 := Tryz.underlying5
  a5 := Tryz.isAgg5
  z5 := Tryz.sizeOf5
  v5 := Tryz.zeroValue5
  t9 := Tryz.underlying9
  a9 := Tryz.isAgg9
  z9 := Tryz.sizeOf9
  v9 := Tryz.zeroValue9
  t22 := Tryz.underlying53
  a22 := Tryz.isAgg53
  z22 := Tryz.sizeOf53
  v22 := Tryz.zeroValue53
  t25 := Tryz.underlying152
  a25 := Tryz.isAgg152
  z25 := Tryz.sizeOf152
  v25 := Tryz.zeroValue152
  t39 := Tryz.underlying140
  a39 := Tryz.isAgg140
  z39 := Tryz.sizeOf140
  v39 := Tryz.zeroValue140
  t45 := Tryz.underlying179
  a45 := Tryz.isAgg179
  z45 := Tryz.sizeOf179
  v45 := Tryz.zeroValue179
  t46 := Tryz.underlying180
  a46 := Tryz.isAgg180
  z46 := Tryz.sizeOf180
  v46 := Tryz.zeroValue180
  t50 := Tryz.underlying184
  a50 := Tryz.isAgg184
  z50 := Tryz.sizeOf184
  v50 := Tryz.zeroValue184
  t53 := Tryz.underlying163
  a53 := Tryz.isAgg163
  z53 := Tryz.sizeOf163
  v53 := Tryz.zeroValue163
  t55 := Tryz.underlying166
  a55 := Tryz.isAgg166
  z55 := Tryz.sizeOf166
  v55 := Tryz.zeroValue166
  t66 := Tryz.underlying190
  a66 := Tryz.isAgg190
  z66 := Tryz.sizeOf190
  v66 := Tryz.zeroValue190
  t70 := Tryz.underlying194
  a70 := Tryz.isAgg194
  z70 := Tryz.sizeOf194
  v70 := Tryz.zeroValue194
  t76 := Tryz.underlying196
  a76 := Tryz.isAgg196
  z76 := Tryz.sizeOf196
  v76 := Tryz.zeroValue196
  t77 := Tryz.underlying197
  a77 := Tryz.isAgg197
  z77 := Tryz.sizeOf197
  v77 := Tryz.zeroValue197 }
end Go.Proofs.YtjidbajcnomceaaGreat

/- Terms in memory of the call's own are sorted by their paths.
Conditions: those written at each theorem. -/
namespace Go.Proofs.YtjidbajcnomceaaGreat
set_option linter.unusedVariables false
set_option linter.unusedSimpArgs false
set_option maxRecDepth 1000000
open Go.RowKit Go.Sort Go.Proofs
open Um Tm Lm

def zE : E := ⟨0, [], none, 0⟩
instance : Inhabited E := ⟨zE⟩
abbrev Sb (es : List E) := { e : E // e ∈ es ∨ e = zE }
instance (es : List E) : Inhabited (Sb es) := ⟨⟨zE, .inr rfl⟩⟩
def encS (es : List E) (x : Sb es) : List Value := ec x.1
def cfS (es : List E) (x y : Sb es) : Int := cmpL x.1.p y.1.p
theorem ltS (es : List E) (x y : Sb es) : ltOf (cfS es) x y = decide (cmpL x.1.p y.1.p < 0) := rfl
theorem swoS (es : List E) : SWO (ltOf (cfS es)) where
  irrefl x := by rw [ltS]; simp [cmpL_irr]
  trans x y z h1 h2 := by
    rw [ltS] at *
    simp only [decide_eq_true_eq] at *
    exact cmpL_trans h1 h2
  ntrans x y z h1 h2 := by
    rw [ltS] at *
    simp only [decide_eq_false_iff_not] at *
    exact cmpL_ntrans h1 h2
/-- the paths lie outside the row that is sorted -/
def Off (w : World) (g : Nat) (es : List E) : Prop := ∀ e ∈ es, e.p.length ≤ 1000 ∧ (e.p = [] ∨ ∃ b off, e.a = some ⟨b, off, none⟩ ∧ b ≠ g ∧ LiesI w b off e.p)
theorem size_putRow {α : Type} [Inhabited α] (enc : α → Value) (w : World) (blk off : Nat) (d : Array α) : (putRow enc w blk off d).heap.size = w.heap.size := by
  simp [putRow, mapBlock]
theorem off_sort {w : World} {g : Nat} {es : List E} (h : Off w g es) (enc : Sb es → List Value) (m : Nat) (dk : Array (Sb es)) (os : Array Obj) {e : E} (he : e ∈ es) : LiesOI (sortWorldK enc 2 w g 0 m dk os) e.a e.p := by
  rcases (h e he).2 with h0 | ⟨b, off, ha, hne, hl⟩
  · exact .inl h0
  · refine .inr ⟨b, off, ha, fun i x hx => ?_⟩
    have f := hl i x hx
    have hb := World.block_lt_of_cell? w _ f
    unfold sortWorldK
    rw [cell?_grow _ _ _ (by unfold putRowK; rw [size_putRow]; exact hb)]
    rw [cell?_putRowK_other enc 2 _ _ _ _ _ hne, cell?_ahead]
    exact f
theorem cmpLaysS {w : World} {g : Nat} {es : List E} (h : Off w g es) (n : Nat) : CmpLays Tryz.prog 114 #[] (encS es) 2 (cfS es) g 0 n w := fun m os dk _ x y => by
  have side : ∀ z : Sb es, LiesOI (sortWorldK (encS es) 2 w g 0 m dk os) z.1.a z.1.p ∧ z.1.p.length ≤ 1000 := fun z => by
    rcases z.2 with hz | hz
    · exact ⟨off_sort h _ m dk os hz, (h _ hz).1⟩
    · rw [hz]; exact ⟨.inl rfl, by simp [zE]⟩
  have hc := closure_lays x.1 y.1 (sortWorldK (encS es) 2 w g 0 m dk os) (side x).1 (side y).1 (side x).2 (side y).2
  exact hc
theorem aggT : ∀ w, (isAgg 60).run Tryz.prog w = .ok true w := fun _ => by kernel_rfl
theorem sizeT : ∀ w, (Go.sizeOf 60).run Tryz.prog w = .ok 2 w := fun _ => by kernel_rfl
theorem entS : ∀ args w, (callFunc 114 args).run Tryz.prog w = .ok (.enter 114 args) w := enters_of Tryz.func114 (by kernel_rfl) rfl
def arrS (es : List E) : Array (Sb es) := (es.attach.map fun x => (⟨x.1, .inl x.2⟩ : Sb es)).toArray
theorem arrS_size (es : List E) : (arrS es).size = es.length := by simp [arrS]
theorem arrS_list (es : List E) : (arrS es).toList.map (·.1) = es := by
  unfold arrS
  rw [List.toList_toArray, List.map_map]
  exact (List.map_congr_left (fun _ _ => rfl)).trans (List.attach_map_subtype_val es)
theorem arrS_get (es : List E) (i : Nat) (hi : i < es.length) : ((arrS es)[i]!).1 = es[i] := by
  have h : i < (arrS es).size := by rw [arrS_size]; exact hi
  rw [getElem!_pos _ i h]
  have e : (arrS es)[i] = (arrS es).toList[i]'(by simpa using h) := by simp
  rw [e]
  have h2 : ((arrS es).toList.map (·.1))[i]? = es[i]? := by rw [arrS_list]
  rw [List.getElem?_map, List.getElem?_eq_getElem (by simpa using h), List.getElem?_eq_getElem hi] at h2
  simpa using h2
theorem holdsS {w : World} {base g cap : Nat} {T : TypeId} {es : List E} (h : w.ownsRow base T 2 (.slice (some ⟨g, 0, none⟩) es.length cap) es.length (es.flatMap ec)) : HoldsK (encS es) 2 w g 0 (arrS es) := fun j hj => by
  rw [size_flatK, arrS_size] at hj
  have hi : j / 2 < es.length := by omega
  have e : j = j / 2 * 2 + j % 2 := by omega
  refine ⟨?_, by rw [Nat.zero_add]; exact h.frozenAt j⟩
  rw [Nat.zero_add, h.cellAt j hj, get_flatK _ _ _ _ (by rw [arrS_size]; exact hj)]
  show _ = some ((ec ((arrS es)[j / 2]!).1)[j % 2]!)
  rw [arrS_get es _ hi]
  have hf := flat_get ec 2 ec_len es (j / 2) es[j / 2] (List.getElem?_eq_getElem hi) (j % 2) (Nat.mod_lt _ (by decide))
  rw [← e] at hf
  rw [hf]
  have h2 : j % 2 < (ec es[j / 2]).length := by rw [ec_len]; exact Nat.mod_lt _ (by decide)
  rw [List.getElem?_eq_getElem h2, getElem!_pos (ec es[j / 2]) (j % 2) h2]
theorem grownS {w : World} {g n : Nat} {es : List E} (enc : Sb es → List Value) (d : Array (Sb es)) (os : Array Obj) : w.grownBy (sortWorldK enc 2 w g 0 n d os) (some g) := by
  refine ⟨rfl, rfl, rfl, ?_, fun k hk hne => ?_⟩
  · simp [sortWorldK, Sort.grow, putRowK, size_putRow]
  · unfold sortWorldK
    rw [heap_grow_old _ _ (by unfold putRowK; rw [size_putRow]; exact hk)]
    have : g ≠ k := fun e => hne (by rw [e])
    simp [putRowK, putRow, mapBlock, Sort.ahead, Array.getElem?_modify, this]
set_option maxHeartbeats 1600000 in
theorem sortT_any {w : World} {base g cap : Nat} {es : List E} (h : w.ownsRow base 60 2 (.slice (some ⟨g, 0, none⟩) es.length cap) es.length (es.flatMap ec)) (ho : Off w g es) (hn : es.length ≤ 1000000) :
    Calls Tryz.prog 113 #[.slice (some ⟨g, 0, none⟩) es.length cap, .func (.func 114) #[] #[]] w fun e w' => e = .returned (.tuple #[]) ∧ ∃ es' : List E, es'.Perm es ∧ (es'.Pairwise fun s t => ¬ cmpL t.p s.p < 0) ∧ RowsAt 2 ec w' g 0 es' ∧ w.grownBy w' (some g) := by
  have hg : g < w.heap.size := (h.lt g rfl).2
  have hH := holdsS h
  have hcon := AnyQ.slices_SortFunc sortT 2 aggT sizeT (encS es) (fun x => ec_len x.1) (fun x v hv => ec_one x.1 v hv) (cfS es) (swoS es) 114 #[] g 0 cap (arrS es) w entS (cmpLaysS ho _) hH hg (by rw [arrS_size]; omega)
  change Calls Tryz.prog 113 _ _ _ at hcon
  rw [arrS_size] at hcon
  refine hcon.mono fun e w' ⟨he, d', n, os, hp, hs, hw⟩ => ⟨he, d'.toList.map (·.1), ?_, ?_, ?_, ?_⟩
  · have h1 := hp.2.2
    have hz : d'.size = es.length := hp.1.trans (arrS_size es)
    rw [Array.extract_eq_self_of_le (by omega), Array.extract_eq_self_of_le (by rw [arrS_size]; omega)] at h1
    have h2 := h1.map (·.1)
    rwa [arrS_list] at h2
  · have hz : d'.size = es.length := hp.1.trans (arrS_size es)
    rw [List.pairwise_iff_getElem]
    intro i j hi hj hij
    simp only [List.length_map, Array.length_toList] at hi hj
    have := hs i j (Nat.zero_le _) hij (by omega)
    rw [ltS] at this
    simp only [decide_eq_false_iff_not] at this
    rw [getElem!_pos _ i hi, getElem!_pos _ j hj] at this
    simpa using this
  · have hz : d'.size = (arrS es).size := hp.1
    have hK := holdsK_sortWorldK_c _ _ _ _ _ (arrS es) d' n os hH hg hz
    rw [← hw] at hK
    intro i x hx j v hv
    have hi : i < d'.size := by have := (List.getElem?_eq_some_iff.1 hx).1; simpa using this
    have hj : j < 2 := by have := (List.getElem?_eq_some_iff.1 hv).1; rwa [ec_len] at this
    have hc := (hK (i * 2 + j) (by rw [size_flatK]; omega)).1
    rw [get_flatK _ _ _ _ (by omega), show (i * 2 + j) / 2 = i by omega, show (i * 2 + j) % 2 = j by omega] at hc
    rw [List.getElem?_map] at hx
    have hd : d'.toList[i]? = some d'[i]! := by rw [getElem!_pos _ i hi]; simp [hi]
    rw [hd] at hx
    simp only [Option.map_some, Option.some.injEq] at hx
    have hcv : (encS es d'[i]!)[j]! = v := by
      have h3 : j < (encS es d'[i]!).length := by show j < (ec _).length; rw [ec_len]; exact hj
      rw [getElem!_pos (encS es d'[i]!) j h3]
      have h4 : (encS es d'[i]!)[j]? = some v := by show (ec (d'[i]!).1)[j]? = some v; rw [hx]; exact hv
      rw [List.getElem?_eq_getElem h3] at h4
      simpa using h4
    rw [hcv] at hc
    rw [show 0 + i * 2 + j = 0 + (i * 2 + j) by omega]
    exact hc
  · rw [hw]
    exact grownS _ _ _
end Go.Proofs.YtjidbajcnomceaaGreat

/- The plain form of a sum of loops, as the program makes it: a map by paths, its entries in whatever order, and the sort.
Conditions: those written at each theorem. -/
namespace Go.Proofs.YtjidbajcnomceaaGreat
set_option linter.unusedVariables false
set_option linter.unusedSimpArgs false
set_option maxRecDepth 1000000
open Go.RowKit
open Um Tm Lm

def zer16 : List Value := List.replicate 16 (.int .i64 0)
/-- a path is copied into an array -/
theorem copy_key (w1 : World) (T ty : TypeId) (k : Nat) (a : Option Addr) (p : List Int) (h : LiesOI w1 a p) (hl : p.length ≤ 16) :
    (Builtin.copy_ #[26, 26] ty #[.slice (some ⟨w1.heap.size, 0, none⟩) 16 16, .slice a p.length k]).run Tryz.prog (w1.alloc (.cells zer16.toArray T)) = .ok (goInt p.length) (w1.alloc (.cells ((padI p).map vi).toArray T)) := by
  have hs : (Tryz.prog.info? 3).map (·.size) = some 1 := by kernel_rfl
  have hg : (w1.alloc (.cells zer16.toArray T)).heap[w1.heap.size]? = some (.cells zer16.toArray T (0, 0)) := World.alloc_heap_new w1 _
  by_cases h0 : p = []
  · subst h0
    have := run_copy_none (P := Tryz.prog) (w1.alloc (.cells zer16.toArray T)) 26 26 ty 3 (some ⟨w1.heap.size, 0, none⟩) a 16 16 0 k Tryz.underlying26 hs rfl
    exact this
  · rcases h with h | ⟨b, off, rfl, h⟩
    · exact absurd h h0
    · have hb : b < w1.heap.size := by
        have hp : 0 < p.length := List.length_pos_iff.2 h0
        exact World.block_lt_of_cell? w1 _ (h 0 _ (List.getElem?_eq_getElem hp))
      have hl2 : LiesI (w1.alloc (.cells zer16.toArray T)) b off p := h.later (by repeat (first | (with_reducible exact Below.refl _ _) | (with_reducible refine Below.setCell ?_ ?_ _) | (with_reducible refine Below.drew ?_) | (with_reducible refine Below.alloc ?_ ?_ _) | omega | (simp <;> omega)))
      have := run_copy_row (P := Tryz.prog) (w1.alloc (.cells zer16.toArray T)) 26 26 ty 3 w1.heap.size 0 16 16 ⟨b, off, none⟩ p.length k zer16.toArray T (p.map vi) Tryz.underlying26 hs hg (by rw [List.length_map]; exact (Nat.min_eq_left hl).symm) (ints_at hl2) (by simp [zer16]; omega) (ints_one p)
      rw [this, List.length_map]
      congr 1
      rw [World.setRow_alloc_new]
      congr 2
      congr 1
      rw [List.toList_toArray, List.take_zero, List.nil_append, Nat.zero_add]
      unfold zer16 padI
      rw [List.drop_replicate, List.map_append, List.map_replicate]
      rfl
theorem wpList_copyRun {w : World} {ops : Array Oper} {rest : List Oper} {o : Oper} {a : Act} {Q : Exit → Act → World → Prop} (hgd : o.guard = none) (d s : Operand) (dT sT : TypeId)
    (ho : o.op = .call { callee := .builtin .copy, args := #[d, s], argTypes := #[dT, sT] }) (x y v : Value) (w' : World) (hd : a.eval d = x) (hs : a.eval s = y) (hrun : (Builtin.copy_ #[dT, sT] o.type #[x, y]).run Tryz.prog w = .ok v w')
    (h : wpList Tryz.prog ops Q rest (a.put o.dst v) w') : wpList Tryz.prog ops Q (o :: rest) a w := by
  refine wpList_plain hgd fun K hK => ?_
  unfold Oper.wp execOp
  simp only [ho, resolve, invoke, builtin, Sem.run_bind, Sem.run_pure, Result.andThen_ok, List.map_toArray, List.map_cons, List.map_nil, hd, hs, hrun]
  exact hK _ _ h
def plp (l : List Int) : List Int := mnL l (opp l)
def pl3 (ts : List T3) : List Trm := ts.map fun t => (t.c, plp t.p)
theorem pl3_len (ts : List T3) : (pl3 ts).length = ts.length := by simp [pl3]
theorem pl3_get (ts : List T3) (k : Nat) (h : k < ts.length) : (pl3 ts)[k]'(by rw [pl3_len]; exact h) = (ts[k].c, plp ts[k].p) := by simp [pl3]
theorem plp_len (l : List Int) : (plp l).length = l.length := by
  unfold plp
  rcases mnL_mem l (opp l) with h | h <;> rw [h]
  exact opp_len l
theorem plp_st {l : List Int} (h : ∀ t ∈ l, IsStep t) : ∀ t ∈ plp l, IsStep t := by
  unfold plp
  rcases mnL_mem l (opp l) with e | e <;> rw [e]
  · exact h
  · exact opp_steps h
theorem Mp.other {w w1 : World} {B g : Nat} {D : DataW Value} {o : List Trm} (h : Mp w B D o) (hg : w.grownBy w1 (some g)) (hne : ∀ (o : Nat) (x : Int), w.cell? ⟨g, o, none⟩ ≠ some (.int .i64 x)) : Mp w1 B D o :=
  ⟨fun kl hk => by
    obtain ⟨e, h1, h2, h3, h4, h5⟩ := h.all kl hk
    exact ⟨e, h1, h2, h3, h4, h5.other hg hne⟩, h.mem, h.kp⟩
theorem map_cell {w : World} {b n : Nat} {D : DataW Value} (h : w.ownsMap Tryz.prog 149 rT b n D) : ∀ (o : Nat) (x : Int), w.cell? ⟨b, o, none⟩ ≠ some (.int .i64 x) := fun o x e => by
  obtain ⟨es, clock, h1, _⟩ := h
  simp [World.cell?, h1] at e
theorem map_is {w : World} {b n : Nat} {D : DataW Value} (h : w.ownsMap Tryz.prog 149 rT b n D) : Maps.IsMap D := by
  obtain ⟨es, h1, _⟩ := h.entries key_law
  exact ⟨es, h1⟩
theorem sum_is {c0 c : Int} {q : Option Int} (h0 : c0 = q.getD 0) (h1 : -1000000000 ≤ c) (h2 : c ≤ 1000000000) : wrap64 (c0 + c) = addO q c := by
  cases q with
  | none => simp only [Option.getD_none] at h0; subst h0; rw [Int.zero_add]; exact IntWalk.wrap64_in _ (by omega)
  | some d => simp only [Option.getD_some] at h0; subst h0; rfl
/-- what the look-up of a path answers -/
theorem look_run {w : World} {B b n : Nat} {D : DataW Value} {o : List Trm} {p : List Int} (hown : w.ownsMap Tryz.prog 149 rT b n D) (hM : Mp w B D o) (hp : Kp p) :
    ∃ c0 a0 n0 k0, (∀ W : World, W.heap[b]? = w.heap[b]? → (Instr.lookup 146 (.map (some b)) (kv p) false).run Tryz.prog W = .ok (.agg #[.int .i64 c0, .slice a0 n0 k0]) W) ∧ c0 = (Lm.look p o).getD 0 := by
  have hz := rT_mk 0 none 0 0
  have all : ∀ W : World, W.heap[b]? = w.heap[b]? → ∃ v ps, (Instr.lookup 146 (.map (some b)) (kv p) false).run Tryz.prog W = .ok v W ∧ rT v = some (D.atKey (klOf p) (.held (.agg #[.int .i64 0, .slice none 0 0])), ps) := fun W hW => by
    have ho : W.ownsMap Tryz.prog 149 rT b n D := by
      obtain ⟨es, clock, h1, h2⟩ := hown
      exact ⟨es, clock, hW.trans h1, h2⟩
    exact ho.lookup key_law underM (zeroT W) hz hp.key
  have hat : ∃ c0 a0 n0 k0, D.atKey (klOf p) (.held (.agg #[.int .i64 0, .slice none 0 0])) = .held (.agg #[.int .i64 c0, .slice a0 n0 k0]) ∧ c0 = (Lm.look p o).getD 0 := by
    by_cases hk : Maps.has D (klOf p) = true
    · obtain ⟨e, h1, h2, h3, h4, h5⟩ := hM.all _ hk
      have he : p = e.p := hp.inj h4 h1
      refine ⟨e.c, e.a, e.p.length, e.k, h2 _, ?_⟩
      rw [he, h3]
      rfl
    · have hk' : Maps.has D (klOf p) = false := by simpa using hk
      refine ⟨0, none, 0, 0, Maps.atKey_of_not_has hk' _, ?_⟩
      cases hl : Lm.look p o with
      | none => rfl
      | some d => exact absurd (hM.mem p d hl hp) hk
  obtain ⟨c0, a0, n0, k0, h1, h2⟩ := hat
  refine ⟨c0, a0, n0, k0, fun W hW => ?_, h2⟩
  obtain ⟨v, ps, hr, hv⟩ := all W hW
  obtain ⟨x, hx, hy⟩ := rT_inv hv
  rw [h1] at hy
  have : v = .agg #[.int .i64 c0, .slice a0 n0 k0] := by
    have := congrArg Prod.fst hy
    injection this with this
    exact this.symm
  rw [hr, this]
theorem field0 (c0 : Int) (a0 : Option Addr) (n0 k0 : Nat) : ∀ W, (Instr.field 60 (.agg #[.int .i64 c0, .slice a0 n0 k0]) 0).run Tryz.prog W = .ok (.int .i64 c0) W := fun _ => by kernel_rfl

theorem map_size {w : World} {b n : Nat} {D : DataW Value} (h : w.ownsMap Tryz.prog 149 rT b n D) : Maps.size D ≤ n := by
  obtain ⟨es, clock, _, _, h3, rfl⟩ := h
  rw [Maps.size_eq, length_sorted, List.length_map]
  simpa using h3
/-- what has been collected of the map -/
structure Jn (w : World) (B : Nat) (D : DataW Value) (o : List Trm) (left : Lit → Bool) (acc : List E) : Prop where
  one : ∀ e ∈ acc, Lm.look e.p o = some e.c ∧ e.c ≠ 0 ∧ left (klOf e.p) = false ∧ Kp e.p ∧ LiesNI w B e.a e.p
  two : ∀ p c, Lm.look p o = some c → c ≠ 0 → left (klOf p) = false → ∃ e ∈ acc, e.p = p ∧ e.c = c
  ne : acc.Pairwise fun e f => e.p ≠ f.p
  sub : ∀ kl, left kl = true → Maps.has D kl = true
theorem Jn.start {w : World} {B : Nat} {D : DataW Value} {o : List Trm} (h : Mp w B D o) : Jn w B D o (Maps.has D) [] :=
  ⟨fun e he => by simp at he, fun p c hl _ hf => (by have := h.mem p c hl (h.kp p c hl); rw [this] at hf; cases hf), List.Pairwise.nil, fun _ h => h⟩
theorem same_key {a b : Lit} (h : a.sameKey b = true) : a = b := by
  by_cases e : a = b
  · exact e
  · rw [Maps.sameKey_ne e] at h; cases h
/-- an entry has come -/
theorem Jn.step {w : World} {B : Nat} {D : DataW Value} {o : List Trm} {left : Lit → Bool} {acc : List E} (h : Jn w B D o left acc) (hM : Mp w B D o) {kl : Lit} {c0 : Int} {a0 : Option Addr} {n0 k0 : Nat} (hl : left kl = true) (hat : ∀ z, D.atKey kl z = .held (.agg #[.int .i64 c0, .slice a0 n0 k0])) :
    ∃ p : List Int, n0 = p.length ∧ (c0 = 0 → Jn w B D o (fun z => left z && !z.sameKey kl) acc) ∧ (c0 ≠ 0 → Jn w B D o (fun z => left z && !z.sameKey kl) (acc ++ [⟨c0, p, a0, k0⟩])) := by
  obtain ⟨e, h1, h2, h3, h4, h5⟩ := hM.all kl (h.sub kl hl)
  have hv : DataW.held (H := Value) (ev e) = .held (.agg #[.int .i64 c0, .slice a0 n0 k0]) := (h2 .nil).symm.trans (hat .nil)
  have he : e.c = c0 ∧ e.a = a0 ∧ e.p.length = n0 ∧ e.k = k0 := by
    injection hv with hv
    unfold ev at hv
    simp only [Value.agg.injEq, Array.mk.injEq, List.cons.injEq, Value.int.injEq, Value.slice.injEq, and_true, true_and] at hv
    exact ⟨hv.1, hv.2.1, hv.2.2.1, hv.2.2.2⟩
  obtain ⟨rfl, rfl, rfl, rfl⟩ := he
  have hmono : ∀ z, left z = false → (left z && !z.sameKey kl) = false := fun z hz => by rw [hz]; rfl
  have hself : ∀ p c, Lm.look p o = some c → (left (klOf p) && !(klOf p).sameKey kl) = false → left (klOf p) = false ∨ (p = e.p ∧ c = e.c) := fun p c hp hf => by
    cases hq : left (klOf p) with
    | false => exact .inl rfl
    | true =>
      rw [hq] at hf
      simp only [Bool.true_and, Bool.not_eq_false'] at hf
      have hk := same_key hf
      have hpe := (hM.kp p c hp).inj h4 (hk.trans h1)
      subst hpe
      rw [h3] at hp
      exact .inr ⟨rfl, by injection hp with hp; exact hp.symm⟩
  refine ⟨e.p, rfl, fun hz => ⟨fun f hf => ?_, fun p c hp hc hf => ?_, h.ne, fun z hz => ?_⟩, fun hz => ⟨fun f hf => ?_, fun p c hp hc hf => ?_, ?_, fun z hz => ?_⟩⟩
  · obtain ⟨q1, q2, q3, q4, q5⟩ := h.one f hf
    exact ⟨q1, q2, hmono _ q3, q4, q5⟩
  · rcases hself p c hp hf with q | ⟨q1, q2⟩
    · exact h.two p c hp hc q
    · exact absurd (q2.trans hz) hc
  · simp only [Bool.and_eq_true] at hz
    exact h.sub z hz.1
  · rcases List.mem_append.1 hf with q | q
    · obtain ⟨q1, q2, q3, q4, q5⟩ := h.one f q
      exact ⟨q1, q2, hmono _ q3, q4, q5⟩
    · rw [List.mem_singleton] at q
      subst q
      refine ⟨h3, hz, ?_, h4, h5⟩
      have : (klOf e.p).sameKey kl = true := by
        rw [h1]
        have := h4.isKey
        generalize klOf e.p = m at *
        cases m <;> simp_all [Lit.sameKey, WideAt.IsKeyLit]
      simp [this]
  · rcases hself p c hp hf with q | ⟨q1, q2⟩
    · obtain ⟨f, hf1, hf2⟩ := h.two p c hp hc q
      exact ⟨f, by simp [hf1], hf2⟩
    · exact ⟨_, List.mem_append_right _ (List.mem_singleton.2 rfl), q1.symm, q2.symm⟩
  · rw [List.pairwise_append]
    refine ⟨h.ne, by simp, fun f hf g hg => ?_⟩
    rw [List.mem_singleton] at hg
    subst hg
    intro e'
    have := (h.one f hf).2.2.1
    rw [e', ← h1, hl] at this
    cases this
  · simp only [Bool.and_eq_true] at hz
    exact h.sub z hz.1
theorem fin_eq {w : World} {B : Nat} {D : DataW Value} {ts : List Trm} {left : Lit → Bool} {acc es : List E} (h : Jn w B D (coll ts) left acc) (hl : ∀ kl, left kl = false) (hp : es.Perm acc) (hs : es.Pairwise fun s t => ¬ cmpL t.p s.p < 0) : tm es = plT ts := by
  have hpt : (tm es).Perm (tm acc) := hp.map _
  have hd : (tm acc).Pairwise fun s t => s.2 ≠ t.2 := List.pairwise_map.2 h.ne
  have hss : (tm es).Pairwise fun s t => ¬ cmpL t.2 s.2 < 0 := List.pairwise_map.2 hs
  refine asc_eq (asc_of_perm hpt hd hss) (plT_asc ts) fun t => ?_
  rw [hpt.mem_iff, plT_mem]
  constructor
  · intro ht
    obtain ⟨e, he, rfl⟩ := List.mem_map.1 ht
    have := h.one e he
    exact ⟨this.1, this.2.1⟩
  · rintro ⟨h1, h2⟩
    obtain ⟨e, he, e1, e2⟩ := h.two t.2 t.1 h1 h2 (hl _)
    exact List.mem_map.2 ⟨e, he, by rw [e1, e2]⟩

end Go.Proofs.YtjidbajcnomceaaGreat

/- The plain form of a sum of loops, as the program makes it: the walk.
Conditions: those written at each theorem. -/
namespace Go.Proofs.YtjidbajcnomceaaGreat
set_option linter.unusedVariables false
set_option linter.unusedSimpArgs false
set_option maxRecDepth 1000000
open Go.RowKit
open Um Tm Lm

theorem info2T : (Tryz.prog.info? 60).map (fun i => (i.zero, i.size, i.bytes)) = some (some (.agg #[.int .i64 0, .slice none 0 0]), 2, 32) := by kernel_rfl
theorem off_of {w w1 : World} {B : Nat} {D : DataW Value} {o : List Trm} {left : Lit → Bool} {acc : List E} (h : Jn w B D o left acc) (hb : Below w.heap.size w w1) : Off w1 w.heap.size acc := fun e he => by
  obtain ⟨-, -, -, h4, h5⟩ := h.one e he
  refine ⟨by have := h4.len; omega, ?_⟩
  rcases h5 with h0 | ⟨b, off, ha, -, -, hl⟩
  · exact .inl h0
  · by_cases hp : e.p = []
    · exact .inl hp
    · have hpos : 0 < e.p.length := List.length_pos_iff.2 hp
      have hlt := World.block_lt_of_cell? w _ (hl 0 _ (List.getElem?_eq_getElem hpos))
      exact .inr ⟨b, off, ha, by simp at hlt; omega, hl.later hb⟩
set_option maxHeartbeats 6400000 in
theorem plain_any (B : Nat) (ao : Option Addr) (cap : Nat) (ts : List T3) (w : World) (h : Tr3 w B ao ts) (hB : B ≤ w.heap.size) (hs : ∀ t ∈ ts, t.p.length ≤ 16 ∧ (∀ s ∈ t.p, IsStep s) ∧ -1000000000 ≤ t.c ∧ t.c ≤ 1000000000) (hl : ts.length ≤ 10000) :
    Calls Tryz.prog 88 #[.slice ao ts.length cap] w fun e w' => ∃ a c, ∃ es : List E, e = .returned (.slice a es.length c) ∧ TrsN w' B a es ∧ tm es = plT (pl3 ts) ∧ Below w.heap.size w w' := by
  have hmm := @run_makeMap Tryz.prog
  obtain ⟨i0, hi, hz0, hz1, hz2⟩ := info_parts info2T
  have cP := fun (a1 a2 : Option Addr) c1 c2 (l : List Int) W (h1 : LiesNI W B a1 l) (h2 : LiesNI W B a2 (opp l)) p1 p2 n1 n2 => plainW_any B a1 a2 c1 c2 l (opp l) W h1 h2 p1 p2 n1 n2
  have H := Lib.hid h
  have HS := Lib.hid hs
  clear h hs
  go_enter Tryz.func88, Tryz.ntmps88
  go_wp2
  have hm0 : (w.alloc (.map #[] 0)).ownsMap Tryz.prog 149 rT w.heap.size 0 (.map []) := World.ownsMap_made w _ _ _
  go_loopw [5, 6, 7, 14] (fun _ _ _ q wr => ∃ (k : Nat) (D : DataW Value), k ≤ ts.length ∧ q = .int .i64 k ∧ Hid (wr.ownsMap Tryz.prog 149 rT w.heap.size k D) ∧ Hid (Mp wr B D (coll ((pl3 ts).take k))) ∧ Below w.heap.size w wr ∧ w.heap.size + 1 ≤ wr.heap.size) (fun _ _ _ q _ => ts.length - (intOf q).toNat)
  case atStart => exact ⟨0, .map [], by omega, rfl, Lib.hid hm0, Lib.hid (Mp.empty _ _), by repeat (first | (with_reducible exact Below.refl _ _) | (with_reducible refine Below.setCell ?_ ?_ _) | (with_reducible refine Below.drew ?_) | (with_reducible refine Below.alloc ?_ ?_ _) | omega | (simp <;> omega)), by simp⟩
  case round =>
    obtain ⟨k, D, hk, rfl, HO, HM, hb, hgs⟩ := hrel
    clear hm0
    by_cases hlt : k < ts.length
    · have i1 : (k : Int) < (ts.length : Int) := by omega
      obtain ⟨b, off, rfl, x0, x1, x2, hp1, hp2, hq1, hq2⟩ := (H.out.later hb).at_ hlt
      obtain ⟨hs1, hs2, hs3, hs4⟩ := HS.out _ (List.getElem_mem hlt)
      have hnext := coll_take (pl3 ts) k (by rw [pl3_len]; exact hlt)
      rw [pl3_get ts k hlt] at hnext
      generalize ts[k] = x at *
      obtain ⟨c, p, pa, pk, pb, pm⟩ := x
      simp only at *
      have HN := Lib.hid hnext
      have H1 := Lib.hid hp1
      have H2 := Lib.hid hp2
      have kp : Kp (plp p) := ⟨by rw [plp_len]; exact hs1, plp_st hs2⟩
      have HK := Lib.hid kp
      have e16 : (plp p).length ≤ 16 := kp.len
      clear hnext hp1 hp2 hs2 kp
      go_wp2_with (first
        | (((with_reducible refine (cP _ _ _ _ p _ (H1.out.later (by repeat (first | (with_reducible exact Below.refl _ _) | (with_reducible refine Below.setCell ?_ ?_ _) | (with_reducible refine Below.drew ?_) | (with_reducible refine Below.alloc ?_ ?_ _) | omega | (simp <;> omega)))) (H2.out.later (by repeat (first | (with_reducible exact Below.refl _ _) | (with_reducible refine Below.setCell ?_ ?_ _) | (with_reducible refine Below.drew ?_) | (with_reducible refine Below.alloc ?_ ?_ _) | omega | (simp <;> omega)))) hq1 hq2 (by omega) (by rw [opp_len]; omega)).mono ?_); rintro e w1 ⟨a1, k1, rfl, hl1, hn1, hw1⟩)
           have HL := Lib.hid hl1
           have z1 := Nat.lt_of_lt_of_le (n := wr.heap.size) (by simp) hw1.size
           have hc1 := Tail.cells hw1
           have hb1 : Below w.heap.size w w1 := (by repeat (first | (with_reducible exact Below.refl _ _) | (with_reducible refine Below.setCell ?_ ?_ _) | (with_reducible refine Below.drew ?_) | (with_reducible refine Below.alloc ?_ ?_ _) | (with_reducible refine Below.trans ?_ (Below.mono hw1 ?_)) | (with_reducible refine Below.trans ?_ (Below.mono hb ?_)) | (with_reducible exact hw1.size) | (with_reducible exact hb.size) | omega | (simp <;> omega) | (simp <;> (have s := hw1.size; omega)) | (simp <;> (have s := hb.size; omega)) | (have s0 := hw1.size; (try simp at s0); have s1 := hb.size; (try simp at s1); (try simp); omega)))
           have HO1 : Hid (w1.ownsMap Tryz.prog 149 rT w.heap.size k D) := Lib.hid ((HO.out.alloc _).kept (grown_of hw1 none) (by simp))
           have HM1 : Hid (Mp w1 B D (coll ((pl3 ts).take k))) := Lib.hid ((HM.out.later (w1 := wr.alloc _) (by repeat (first | (with_reducible exact Below.refl _ _) | (with_reducible refine Below.setCell ?_ ?_ _) | (with_reducible refine Below.drew ?_) | (with_reducible refine Below.alloc ?_ ?_ _) | omega | (simp <;> omega)))).later hw1)
           clear HO HM hl1 hw1 hb)
        | (refine wpList_copyRun rfl (.tmp 21) (.tmp 22) 26 26 rfl _ _ _ _ (by rfl) (by rfl) (copy_key w1 _ _ k1 a1 (plp p) HL.out.o e16) ?_))
      go_frame
      obtain ⟨c0, a0, n0, k0, hlk0, hc0⟩ := look_run HO1.out HM1.out HK.out
      have hkey := HK.out.key
      unfold kv at hlk0 hkey
      obtain ⟨x0, x1, x2, x3, x4, x5, x6, x7, x8, x9, x10, x11, x12, x13, x14, x15, hxs⟩ := list16 (padI_len e16)
      rw [hxs] at hlk0 hkey ⊢
      simp only [List.map_cons, List.map_nil, vi] at hlk0 hkey ⊢
      have hlk : ∀ (d : Nat) (os : Array Obj), (Instr.lookup 146 (.map (some w.heap.size)) (.agg #[.int .i64 x0, .int .i64 x1, .int .i64 x2, .int .i64 x3, .int .i64 x4, .int .i64 x5, .int .i64 x6, .int .i64 x7, .int .i64 x8, .int .i64 x9, .int .i64 x10, .int .i64 x11, .int .i64 x12, .int .i64 x13, .int .i64 x14, .int .i64 x15]) false).run Tryz.prog (Sort.grow (redrawn (w1.alloc (.cells #[.int .i64 x0, .int .i64 x1, .int .i64 x2, .int .i64 x3, .int .i64 x4, .int .i64 x5, .int .i64 x6, .int .i64 x7, .int .i64 x8, .int .i64 x9, .int .i64 x10, .int .i64 x11, .int .i64 x12, .int .i64 x13, .int .i64 x14, .int .i64 x15] 149)) d) os) = .ok (.agg #[.int .i64 c0, .slice a0 n0 k0]) (Sort.grow (redrawn (w1.alloc (.cells #[.int .i64 x0, .int .i64 x1, .int .i64 x2, .int .i64 x3, .int .i64 x4, .int .i64 x5, .int .i64 x6, .int .i64 x7, .int .i64 x8, .int .i64 x9, .int .i64 x10, .int .i64 x11, .int .i64 x12, .int .i64 x13, .int .i64 x14, .int .i64 x15] 149)) d) os) := fun d os => hlk0 _ (by
        have hz : w.heap.size < w1.heap.size := HO1.out.lt
        rw [Sort.heap_grow_old _ _ (by show w.heap.size < (w1.alloc _).heap.size; simp; omega)]
        exact Below.heap_alloc w1 _ _ hz)
      have f0 := field0 c0 a0 n0 k0
      have HKEY := Lib.hid hkey
      have HC0 := Lib.hid hc0
      clear hlk0 hkey hxs hc0
      have kc := @Tail.cell_re; have kc1 : ∀ (W : World) (o : Obj) (d : Nat) (os : Array Obj) (a : Addr), a.block ≤ W.heap.size → (Sort.grow (redrawn (W.alloc o) d) os).cell? a = (W.alloc o).cell? a := fun W o d os a h => Tail.cell_re (W.alloc o) d os a (Nat.lt_of_le_of_lt h (by simp))
      refine Tail.region_tail_below 11 (by kernel_rfl) (by kernel_rfl) ?_
      simp only [List.take_succ_cons, List.take_zero]
      repeat (go_big_quiet_step (fail))
      refine wpQuiet_nil ?_
      intro W hW
      simp only [List.drop_succ_cons, List.drop_zero]
      have hHO : W.ownsMap Tryz.prog 149 rT w.heap.size k D := (HO1.out.alloc _).kept (grown_of hW none) (by simp)
      have hHM : Mp W B D (coll ((pl3 ts).take k)) := (HM1.out.later (by repeat (first | (with_reducible exact Below.refl _ _) | (with_reducible refine Below.setCell ?_ ?_ _) | (with_reducible refine Below.drew ?_) | (with_reducible refine Below.alloc ?_ ?_ _) | omega | (simp <;> omega)))).later hW
      have hHL : LiesNI W B a1 (plp p) := (HL.out.later (by repeat (first | (with_reducible exact Below.refl _ _) | (with_reducible refine Below.setCell ?_ ?_ _) | (with_reducible refine Below.drew ?_) | (with_reducible refine Below.alloc ?_ ?_ _) | omega | (simp <;> omega)))).later hW
      have hP := hHM.put (coll_asc _) (map_is hHO) ⟨wrap64 (c0 + c), plp p, a1, k1⟩ c HK.out hHL (sum_is HC0.out hs3 hs4)
      rw [← HN.out] at hP
      have HP := Lib.hid hP
      have HOW := Lib.hid hHO
      have bW : Below w.heap.size w W := by repeat (first | (with_reducible exact Below.refl _ _) | (with_reducible refine Below.setCell ?_ ?_ _) | (with_reducible refine Below.drew ?_) | (with_reducible refine Below.alloc ?_ ?_ _) | (with_reducible refine Below.trans ?_ (Below.mono hW ?_)) | (with_reducible refine Below.trans ?_ (Below.mono hb1 ?_)) | (with_reducible exact hW.size) | (with_reducible exact hb1.size) | omega | (simp <;> omega) | (simp <;> (have s := hW.size; omega)) | (simp <;> (have s := hb1.size; omega)) | (have s0 := hW.size; (try simp at s0); have s1 := hb1.size; (try simp at s1); (try simp); omega))
      have hne := map_cell hHO
      have HNE := Lib.hid hne
      have sW := bW.size
      have sW2 : w.heap.size + 1 ≤ W.heap.size := by have := hHO.lt; omega
      clear hHO hHM hHL hP hne HO1 HM1 HL HN hlk f0 kc kc1 hc1 hW
      go_wp2_with (at_mapUpdate; refine wpList_mapUpdate_own _ rfl (.tmp 24) (.tmp 25) (.tmp 34) 146 rfl 149 60 key_law underM rT w.heap.size k D rfl HOW.out (by unfold maxLen; omega) _ _ (klOf (plp p)) rfl rfl HKEY.out _ [] (rT_mk _ _ _ _) ?_; intro w3 hown3 hgrow3)
      have hM3 := HP.out.other hgrow3 HNE.out
      have b3 : Below w.heap.size w w3 := bW.grown hgrow3 sW (fun j hj => by simp at hj; omega)
      have HO3 := Lib.hid hown3
      have HM3 := Lib.hid hM3
      have s3 := hgrow3.size
      clear hown3 hM3 hgrow3 HP HOW HNE HKEY
      go_wp2
      exact ⟨⟨k + 1, _, by omega, by go_num, HO3, HM3, b3, by omega⟩, by simp [intOf]; omega⟩
    · obtain rfl : ts.length = k := by omega
      have hM : Mp wr B D (coll (pl3 ts)) := by have := HM.out; rwa [List.take_of_length_le (by rw [pl3_len]; omega)] at this
      have hsz := map_size HO.out
      have hn2 : Maps.size D ≤ maxLen := by unfold maxLen; omega
      have hn3 : i0.bytes * Maps.size D ≤ 281474976710656 := by rw [hz2]; omega
      have HMM := Lib.hid hM
      have hlt0 := HO.out.lt
      clear HM hM
      go_wp2_with (first
        | (at_len; refine wpList_len_own _ rfl _ 146 rfl 149 60 underM rT w.heap.size ts.length D rfl HO.out ?_)
        | (at_make; refine wpList_make_own _ rfl _ _ 53 rfl wr.heap.size 60 i0 _ 2 Tryz.underlying53 hi hz0 hz1 _ _ _ (Maps.size D) rfl rfl rfl hn3 hn2 (Nat.le_refl _) ?_; intro w2 hown2 hgrow2)
        | (at_range; refine wpList_range_own _ rfl _ 146 rfl 149 60 key_law underM rT w.heap.size ts.length D rfl (HO.out.kept hgrow2 (by simp)) ?_; intro w3 hrg3 hg3 hs3))
      go_frame
      have hb1 : Below w.heap.size w wr := hb
      have hw0 : w.heap.size < wr.heap.size := HO.out.lt
      have b3 : Below wr.heap.size wr w3 := ((Below.refl wr.heap.size wr).grown hgrow2 (Nat.le_refl _) (by simp)).grown hg3 hgrow2.size (by simp)
      have HA3 := Lib.hid (hown2.kept hg3 (.inr (by simp [Value.ownBlock])))
      have HR3 := Lib.hid hrg3
      have hgr : wr.heap.size < w2.heap.size := (hown2.lt wr.heap.size rfl).2
      have HJ3 := Lib.hid (Jn.start HMM.out)
      clear hown2 hgrow2 hg3 hrg3 hb HO
      generalize w2.heap.size = r at *
      obtain ⟨wo, rfl⟩ : ∃ wo : World, wo = wr := ⟨_, rfl⟩
      go_loopw [8, 10] (fun f _ wr => ∃ (acc : List E) (left : Lit → Bool) (cnt : Nat), acc.length + cnt ≤ Maps.size D ∧ f = .slice (some ⟨wo.heap.size, 0, none⟩) acc.length (Maps.size D) ∧ Hid (wr.ranges Tryz.prog 149 rT w.heap.size r ts.length D left cnt) ∧ Hid (wr.ownsRow wo.heap.size 60 2 (.slice (some ⟨wo.heap.size, 0, none⟩) acc.length (Maps.size D)) acc.length (acc.flatMap ec)) ∧ Hid (Jn wo B D (coll (pl3 ts)) left acc) ∧ Below wo.heap.size wo wr ∧ r + 1 ≤ wr.heap.size) (fun _ _ wr => wr.rangeLeft w.heap.size r)
      case atStart => exact ⟨[], _, _, by simp, rfl, HR3, HA3, HJ3, b3, by omega⟩
      case round =>
        obtain ⟨acc, left, cnt, hcnt, rfl, HR, HA, HJ, hb, hr⟩ := hrel
        clear HA3 HR3 HJ3 b3 hs3
        have hbs := hb.size
        go_wp2_with (at_next; refine wpList_next_ranges _ rfl (.tmp 40) rfl 149 key_law rT (fun v => v) (fun (x : Int × Option Addr × Nat × Nat) => .agg #[.int .i64 x.1, .slice x.2.1 x.2.2.1 x.2.2.2]) (fun key kl _ => ⟨key, rfl⟩) (fun v y hv => (rT_inv hv).imp fun x hx => hx.1) w.heap.size r ts.length D left cnt rfl HR.out ?_ ?_)
        · intro hc0 hl0
          (try go_frame)
          have hoff := off_of HJ.out hb
          have hlen : acc.length ≤ 1000000 := by omega
          have HL0 := Lib.hid hl0
          clear hl0
          go_wp2_with ((with_reducible refine (sortT_any HA.out hoff hlen).mono ?_); rintro e w4 ⟨rfl, es, hperm, hsort, hrows, hg4⟩)
          have hEN : EN w4 B es := fun e he => ((HJ.out.one e (hperm.mem_iff.1 he)).2.2.2.2.later (hb.grown hg4 hbs (fun j hj => by simp at hj; omega)))
          have hfin := fin_eq HJ.out HL0.out hperm (hsort.imp fun h => by omega)
          have hbw : Below w.heap.size w w4 := (hb1.trans (hb.mono hb1.size)).grown hg4 (by have := hb1.size; omega) (fun j hj => by simp at hj; omega)
          have hle := hperm.length_eq
          have HF := Lib.hid hfin
          have HE := Lib.hid hEN
          have HRW := Lib.hid hrows
          have HLE := Lib.hid hle
          clear hEN hfin hle hrows hsort hperm hg4 hoff
          go_wp2
          go_ret
          exact ⟨some ⟨wo.heap.size, 0, none⟩, Maps.size D, es, by rw [HLE.out]; rfl, ⟨.inr ⟨wo.heap.size, 0, rfl, by omega, HRW.out⟩, HE.out⟩, HF.out, hbw⟩
        · intro x c0 a0 n0 k0 kl y1 y2 w4 cnt4 hkey hlk hR hat hrg4 hlt4 hg4 hs4 hen
          rw [rT_mk] at hR
          simp only [Option.some.injEq, Prod.mk.injEq] at hR
          obtain ⟨rfl, rfl⟩ := hR
          obtain ⟨p, rfl, hJ0, hJ1⟩ := HJ.out.step HMM.out hlk hat
          have hb4 : Below wo.heap.size wo w4 := hb.grown hg4 hbs (fun j hj => by simp at hj; omega)
          have hA4 := HA.out.kept hg4 (.inr (by simp [Value.ownBlock]; omega))
          have hml := HR.out.left_eq
          have HA4 := Lib.hid hA4
          have HR4 := Lib.hid hrg4
          have HML := Lib.hid hml
          have hr4 : r + 1 ≤ w4.heap.size := by omega
          clear hs4 hr hat hkey hA4 hrg4 hml HA HR HJ hg4 hb hlk
          by_cases hz : c0 = 0
          · have HJ4 := Lib.hid (hJ0 hz)
            subst hz
            clear hJ0 hJ1
            (try go_frame)
            go_wp2
            have hrn := HR4.out.alloc (.cells #[.int .i64 0, .slice a0 p.length k0] 60)
            refine ⟨⟨acc, _, cnt4, by omega, rfl, Lib.hid hrn, Lib.hid (HA4.out.alloc _), HJ4, by repeat (first | (with_reducible exact Below.refl _ _) | (with_reducible refine Below.setCell ?_ ?_ _) | (with_reducible refine Below.drew ?_) | (with_reducible refine Below.alloc ?_ ?_ _) | (with_reducible refine Below.trans ?_ (Below.mono hb4 ?_)) | (with_reducible exact hb4.size) | omega | (simp <;> omega) | (simp <;> (have s := hb4.size; omega)) | (have s0 := hb4.size; (try simp at s0); (try simp); omega)), by simp; omega⟩, ?_⟩
            rw [hrn.left_eq, HML.out]
            exact hlt4
          · have HJ4 := Lib.hid (hJ1 hz)
            have hz' : (c0 != 0) = true := by simpa using hz
            clear hJ0 hJ1 hz
            (try go_frame)
            go_wp2_with (at_builtin; refine wpList_append_fits _ rfl (.tmp 48) (.tmp 50) 53 rfl wo.heap.size 60 i0 2 Tryz.underlying53 hi hz1 wo.heap.size acc.length (Maps.size D) (acc.flatMap ec) rfl ((HA4.out.alloc _).alloc _) ⟨w4.heap.size + 1, 0, none⟩ 1 1 (ec ⟨c0, p, a0, k0⟩) rfl rfl (two_cells rfl (by simp [go_sem]) (by simp [go_sem])) (ec_one _) (by omega) ?_; intro w5 hown5 hgrow5)
            have hrn := ((HR4.out.alloc (.cells #[.int .i64 c0, .slice a0 p.length k0] 60)).alloc (.cells #[.int .i64 c0, .slice a0 p.length k0] 60)).kept hgrow5 (by simp; omega) (by simp; omega)
            have ho : w5.ownsRow wo.heap.size 60 2 (.slice (some ⟨wo.heap.size, 0, none⟩) (acc.length + 1) (Maps.size D)) (acc.length + 1) ((acc ++ [(⟨c0, p, a0, k0⟩ : E)]).flatMap ec) := by
              rw [List.flatMap_append]
              simpa using hown5
            have hb5 : Below wo.heap.size wo w5 := Below.grown (by repeat (first | (with_reducible exact Below.refl _ _) | (with_reducible refine Below.setCell ?_ ?_ _) | (with_reducible refine Below.drew ?_) | (with_reducible refine Below.alloc ?_ ?_ _) | (with_reducible refine Below.trans ?_ (Below.mono hb4 ?_)) | (with_reducible exact hb4.size) | omega | (simp <;> omega) | (simp <;> (have s := hb4.size; omega)) | (have s0 := hb4.size; (try simp at s0); (try simp); omega))) hgrow5 (by simp; have := hb4.size; omega) (fun j hj => by simp at hj; omega)
            have s5 := hgrow5.size
            simp at s5
            have HO5 := Lib.hid ho
            have HR5 := Lib.hid hrn
            clear hown5 hgrow5 ho hrn HA4 HR4
            go_wp2
            refine ⟨⟨acc ++ [(⟨c0, p, a0, k0⟩ : E)], _, cnt4, by simp; omega, by simp, HR5, Lib.hid (by simpa using HO5.out), HJ4, hb5, by omega⟩, ?_⟩
            rw [HR5.out.left_eq, HML.out]
            exact hlt4
end Go.Proofs.YtjidbajcnomceaaGreat

/- Lists of terms one behind the other, in new memory.
Conditions: those written at each theorem. -/
namespace Go.Proofs.YtjidbajcnomceaaGreat
set_option linter.unusedVariables false
set_option linter.unusedSimpArgs false
set_option maxRecDepth 1000000
open Go.RowKit
open Um Tm Lm

theorem rows_at {α : Type} {z : Nat} {enc : α → List Value} {w : World} {b off : Nat} {l : List α} (hz : ∀ x, (enc x).length = z) (h0 : 0 < z) (h : RowsAt z enc w b off l) : ∀ j u, (l.flatMap enc)[j]? = some u → w.cell? (Addr.add ⟨b, off, none⟩ j) = some u := fun j u hj => by
  have hlt : j < l.length * z := by have := (List.getElem?_eq_some_iff.1 hj).1; rwa [flat_len enc z hz] at this
  have hi : j / z < l.length := (Nat.div_lt_iff_lt_mul h0).2 hlt
  have hm : j % z < z := Nat.mod_lt _ h0
  have e : j / z * z + j % z = j := Nat.div_add_mod' j z
  have hf := flat_get enc z hz l (j / z) l[j / z] (List.getElem?_eq_getElem hi) (j % z) hm
  rw [e, hj] at hf
  have := h (j / z) _ (List.getElem?_eq_getElem hi) (j % z) u hf.symm
  have ea : Addr.add ⟨b, off, none⟩ j = ⟨b, off + j, none⟩ := by
    unfold Addr.add
    split
    · rename_i h; subst h; rfl
    · rfl
  rw [ea]
  rwa [Nat.add_assoc, e] at this
theorem tcs_one (l : List T3) : ∀ u ∈ l.flatMap tc, u.oneCell' = true := fun u hu => by
  obtain ⟨x, _, hx⟩ := List.mem_flatMap.1 hu
  exact tc_one x u hx
theorem run_append_T (w : World) (ty : TypeId) (base : Nat) (v : Value) (n : Nat) (xs : List Value) (ao : Option Addr) (c : Nat) (l : List T3) (hown : w.ownsRow base 119 3 v n xs) (h : RowsO 3 tc w ao l) (hb : base ≤ w.heap.size) (hn : n + l.length ≤ 1000000) :
    ∃ v' w', (Builtin.append_ #[113, 113] ty #[v, .slice ao l.length c]).run Tryz.prog w = .ok v' w' ∧ w'.ownsRow base 119 3 v' (n + l.length) (xs ++ l.flatMap tc) ∧ w.grownBy w' v.ownBlock := by
  obtain ⟨i0, hi, hz0, hz1, hz2⟩ := info_parts info3T
  have some_ : ∀ a : Addr, (∀ j u, (l.flatMap tc)[j]? = some u → w.cell? (a.add j) = some u) → ∃ v' w', (Builtin.append_ #[113, 113] ty #[v, .slice (some a) l.length c]).run Tryz.prog w = .ok v' w' ∧ w'.ownsRow base 119 3 v' (n + l.length) (xs ++ l.flatMap tc) ∧ w.grownBy w' v.ownBlock := fun a hat => by
    obtain ⟨v', w', h1, h2, h3, -⟩ := run_append_own w base 113 ty 119 i0 _ 3 56 Tryz.underlying113 hi hz0 hz1 hz2 rfl (by decide) v n xs hown a l.length c (l.flatMap tc) (flat_len tc 3 tc_len l) hat (tcs_one l) (by unfold maxLen; omega) (by omega) hb
    exact ⟨v', w', h1, h2, h3⟩
  rcases h with rfl | ⟨b, off, rfl, h⟩
  · cases ao with
    | none => exact ⟨v, w, run_append_none_cap base _ ty _ i0 3 c Tryz.underlying113 hi v n xs hown, by simpa using hown, ⟨rfl, rfl, rfl, Nat.le_refl _, fun _ _ _ => rfl⟩⟩
    | some a => exact some_ a (fun j u hj => by simp at hj)
  · exact some_ _ (rows_at tc_len (by decide) h)

end Go.Proofs.YtjidbajcnomceaaGreat
