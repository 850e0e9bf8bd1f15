/- Paths as keys of a map, and what the map of plain paths holds.
Conditions: those written at each theorem. -/
import Derived.Test.YtjidbajcnomceaaGreatRowsC
import Derived.Maps.RangeWalk
import Derived.Maps.Ext
import Derived.DeepKeys4
import Derived.Laws.IdiomCopy
import Derived.Laws.CopyRow
namespace Go.Proofs.YtjidbajcnomceaaGreat
set_option linter.unusedVariables false
set_option linter.unusedSimpArgs false
set_option maxRecDepth 1000000
open Go.RowKit
open Um Tm Lm

def unv : Value → Int
  | .int _ n => n
  | _ => 0
theorem map_vi {l m : List Int} (h : l.map vi = m.map vi) : l = m := by
  have h2 := congrArg (List.map unv) h
  have e : ∀ l : List Int, (l.map vi).map unv = l := fun l => by
    rw [List.map_map]
    exact (List.map_congr_left (fun _ _ => rfl)).trans (List.map_id _)
  rwa [e, e] at h2
/-- a path as a key: with zeros behind it -/
def padI (p : List Int) : List Int := p ++ List.replicate (16 - p.length) 0
theorem padI_len {p : List Int} (h : p.length ≤ 16) : (padI p).length = 16 := by simp [padI]; omega
theorem padI_take (p : List Int) (h : ∀ t ∈ p, t ≠ 0) : (padI p).takeWhile (fun t => t ≠ 0) = p := by
  unfold padI
  rw [List.takeWhile_append]
  have e : p.takeWhile (fun t => decide (t ≠ 0)) = p := by
    induction p with
    | nil => rfl
    | cons x p ih =>
      rw [List.takeWhile_cons, if_pos (by simpa using h x (by simp)), ih fun t ht => h t (by simp [ht])]
  rw [e, if_pos rfl]
  cases hn : 16 - p.length with
  | zero => simp
  | succ n => simp [List.replicate_succ]
theorem padI_inj {p q : List Int} (hp : ∀ t ∈ p, t ≠ 0) (hq : ∀ t ∈ q, t ≠ 0) (h : padI p = padI q) : p = q := by
  rw [← padI_take p hp, ← padI_take q hq, h]
def kv (p : List Int) : Value := .agg ((padI p).map vi).toArray
theorem key_wide : (match Tryz.prog.underlying 149 with | some (.array _ _) | some (.struct _) => true | _ => false) = true := by kernel_rfl
theorem key_law : Go.Maps.Keyed Tryz.prog 149 := Go.Maps.Keyed.of_law (deep_law_laid (by kernel_rfl) (m := 3) (by omega) (of_decide_eq_true (by kernel_rfl)) (by kernel_rfl) key_wide)
theorem list16 {l : List Int} (h : l.length = 16) : ∃ x0 x1 x2 x3 x4 x5 x6 x7 x8 x9 x10 x11 x12 x13 x14 x15 : Int, l = [x0, x1, x2, x3, x4, x5, x6, x7, x8, x9, x10, x11, x12, x13, x14, x15] := by
  match l, h with
  | [x0, x1, x2, x3, x4, x5, x6, x7, x8, x9, x10, x11, x12, x13, x14, x15], _ => exact ⟨_, _, _, _, _, _, _, _, _, _, _, _, _, _, _, _, rfl⟩
theorem key_type : Tryz.prog.keyType 149 = true := by kernel_rfl
theorem key_under : Tryz.prog.underlying 149 = some (.array 16 3) := by kernel_rfl
theorem key_cells : Tryz.prog.cellsOf 149 = 16 := by kernel_rfl
theorem int_cells : Tryz.prog.cellsOf 3 = 1 := by kernel_rfl
theorem int_under : Tryz.prog.underlying 3 = some (.int .i64) := by kernel_rfl
theorem key_some {l : List Int} (h : l.length = 16) (hw : ∀ x ∈ l, (Lit.int .i64 x).wf = true) : ∃ kl, keyOf Tryz.prog 149 (.agg (l.map vi).toArray) = some kl := by
  have hs : ∃ n, Tryz.prog.types.size + 1 = n + 2 := ⟨Tryz.prog.types.size - 1, by
    have : 1 ≤ Tryz.prog.types.size := of_decide_eq_true (by kernel_rfl)
    omega⟩
  obtain ⟨n, hn⟩ := hs
  have hL : ∃ ls, Tryz.prog.keyLits (n + 2) 149 (l.map vi) = some ls := by
    unfold Program.keyLits
    simp only [key_under, key_cells, int_cells]
    rw [if_pos (by simp [h])]
    have : ∀ m : List Nat, (∀ i ∈ m, i < 16) → ∃ r, (m.mapM fun i => Tryz.prog.keyLits (n + 1) 3 (((l.map vi).drop (i * 1)).take 1)) = some r := fun m => by
      induction m with
      | nil => intro _; exact ⟨[], rfl⟩
      | cons i m ih =>
        intro hm
        obtain ⟨r, hr⟩ := ih fun j hj => hm j (by simp [hj])
        have hi : i < l.length := by rw [h]; exact hm i (by simp)
        have e : ((l.map vi).drop (i * 1)).take 1 = [.int .i64 l[i]] := by
          rw [Nat.mul_one, List.drop_eq_getElem_cons (by simpa using hi)]
          simp [vi]
        have hk : Tryz.prog.keyLits (n + 1) 3 [.int .i64 l[i]] = some [.int .i64 l[i]] := by
          unfold Program.keyLits
          simp only [int_under]
          rw [if_pos ⟨trivial, hw _ (List.getElem_mem hi)⟩]
        refine ⟨[.int .i64 l[i]] :: r, ?_⟩
        rw [List.mapM_cons, e, hk, hr]
        rfl
    obtain ⟨r, hr⟩ := this (List.range 16) (fun i hi => by simpa using hi)
    rw [hr]
    exact ⟨_, rfl⟩
  obtain ⟨ls, hls⟩ := hL
  unfold keyOf
  simp only [key_under, key_type, Bool.true_and]
  have hf : (Value.agg (l.map vi).toArray).formed Tryz.prog 149 = true := by simp [Value.formed, key_under, key_cells, h]
  rw [if_pos hf, hn]
  have ec : (Value.agg (l.map vi).toArray).cells.toList = l.map vi := by simp [Value.cells]
  rw [ec, hls]
  exact ⟨_, rfl⟩
noncomputable def klOf (p : List Int) : Lit := (keyOf Tryz.prog 149 (kv p)).getD .nil
/-- what a path must be for a key -/
structure Kp (p : List Int) : Prop where
  len : p.length ≤ 16
  st : ∀ t ∈ p, IsStep t
theorem Kp.key {p : List Int} (h : Kp p) : keyOf Tryz.prog 149 (kv p) = some (klOf p) := by
  obtain ⟨kl, hk⟩ := key_some (padI_len h.len) (fun x hx => by
    have : -3 ≤ x ∧ x ≤ 3 := by
      unfold padI at hx
      rcases List.mem_append.1 hx with hx | hx
      · have := h.st x hx; exact ⟨this.2.1, this.2.2⟩
      · have := List.eq_of_mem_replicate hx; omega
    have h1 : IntKind.i64.min = -9223372036854775808 := by decide
    have h2 : IntKind.i64.max = 9223372036854775807 := by decide
    simp [Lit.wf, h1, h2]
    omega)
  have : keyOf Tryz.prog 149 (kv p) = some kl := hk
  unfold klOf
  rw [this]
  rfl
theorem Kp.inj {p q : List Int} (hp : Kp p) (hq : Kp q) (h : klOf p = klOf q) : p = q := by
  have h1 := hp.key
  have h2 := hq.key
  rw [← h] at h2
  have h3 : kv p = kv q := key_law.inj h1 h2
  have h4 : padI p = padI q := by
    unfold kv at h3
    injection h3 with h3
    have h5 : (padI p).map vi = (padI q).map vi := by simpa using h3
    exact map_vi h5
  exact padI_inj (fun t ht => (hp.st t ht).1) (fun t ht => (hq.st t ht).1) h4
theorem Kp.isKey {p : List Int} (h : Kp p) : WideAt.IsKeyLit (klOf p) := key_law.key h.key

/-- how an element of the map reads: as itself -/
def rT (v : Value) : Option (DataW Value × List MemPlace) := match v with
  | .agg cs => (match cs.toList with | [.int .i64 _, .slice _ _ _] => some (.held v, []) | _ => none)
  | _ => none
theorem rT_mk (c : Int) (a : Option Addr) (n k : Nat) : rT (.agg #[.int .i64 c, .slice a n k]) = some (.held (.agg #[.int .i64 c, .slice a n k]), []) := rfl
theorem rT_inv {v : Value} {y : DataW Value × List MemPlace} (h : rT v = some y) : ∃ (x : Int × Option Addr × Nat × Nat), v = .agg #[.int .i64 x.1, .slice x.2.1 x.2.2.1 x.2.2.2] ∧ y = (.held v, []) := by
  unfold rT at h
  split at h
  · rename_i cs
    split at h
    · rename_i c a n k hcs
      refine ⟨(c, a, n, k), ?_, by cases h; rfl⟩
      have : cs = #[.int .i64 c, .slice a n k] := by
        apply Array.ext'
        simpa using hcs
      rw [this]
    · cases h
  · cases h
def ev (e : E) : Value := .agg #[.int .i64 e.c, .slice e.a e.p.length e.k]
theorem rT_ev (e : E) : rT (ev e) = some (.held (ev e), []) := rfl
theorem zeroT (w : World) : (zeroValue 60).run Tryz.prog w = .ok (.agg #[.int .i64 0, .slice none 0 0]) w := by kernel_rfl
theorem underM : Tryz.prog.underlying 146 = some (.map 149 60) := by kernel_rfl

/-- what the map holds: the coefficients that have been collected, each with its path -/
structure Mp (w : World) (B : Nat) (D : DataW Value) (o : List Trm) : Prop where
  all : ∀ kl, Maps.has D kl = true → ∃ e : E, kl = klOf e.p ∧ (∀ z, D.atKey kl z = .held (ev e)) ∧ Lm.look e.p o = some e.c ∧ Kp e.p ∧ LiesNI w B e.a e.p
  mem : ∀ p c, Lm.look p o = some c → Kp p → Maps.has D (klOf p) = true
  kp : ∀ p c, Lm.look p o = some c → Kp p
theorem Mp.later {w w1 : World} {B : Nat} {D : DataW Value} {o : List Trm} (h : Mp w B D o) (hb : Below w.heap.size w w1) : Mp w1 B D o :=
  ⟨fun kl hk => by
    obtain ⟨e, h1, h2, h3, h4, h5⟩ := h.all kl hk
    exact ⟨e, h1, h2, h3, h4, h5.later hb⟩, h.mem, h.kp⟩
theorem Mp.grown {w w1 : World} {B g : Nat} {D : DataW Value} {o : List Trm} (h : Mp w B D o) (hg : w.grownBy w1 (some g)) (hlt : g < B) : Mp w1 B D o :=
  ⟨fun kl hk => by
    obtain ⟨e, h1, h2, h3, h4, h5⟩ := h.all kl hk
    exact ⟨e, h1, h2, h3, h4, h5.grown hg hlt⟩, h.mem, h.kp⟩
theorem Mp.empty (w : World) (B : Nat) : Mp w B (.map []) [] := ⟨fun kl h => (by cases h), fun p c h => (by cases h), fun p c h => (by cases h)⟩
def addO (q : Option Int) (c : Int) : Int := match q with
  | none => c
  | some d => ad d c
/-- a term is added: the sum is laid under its path -/
theorem Mp.put {w : World} {B : Nat} {D : DataW Value} {o : List Trm} (h : Mp w B D o) (ho : Asc o) (hD : Maps.IsMap D) (e : E) (c : Int) (hp : Kp e.p) (hl : LiesNI w B e.a e.p) (hc : e.c = addO (Lm.look e.p o) c) :
    Mp w B (D.put (klOf e.p) (.held (ev e))) (ins (c, e.p) o) := by
  have hlk : ∀ q, Lm.look q (ins (c, e.p) o) = if e.p = q then some e.c else Lm.look q o := fun q => by
    rw [look_ins q (c, e.p) o ho]
    by_cases he : e.p = q
    · subst he
      rw [if_pos rfl, if_pos rfl, hc]
      cases Lm.look e.p o <;> rfl
    · rw [if_neg he, if_neg he]
  refine ⟨fun kl hk => ?_, fun p d hd hkp => ?_, fun p d hd => ?_⟩
  · by_cases he : kl = klOf e.p
    · subst he
      exact ⟨e, rfl, fun z => Maps.atKey_put_same hD hp.isKey _ z, by rw [hlk, if_pos rfl], hp, hl⟩
    · rw [Maps.has_put_other he] at hk
      obtain ⟨f, h1, h2, h3, h4, h5⟩ := h.all kl hk
      refine ⟨f, h1, fun z => by rw [Maps.atKey_put_other he]; exact h2 z, ?_, h4, h5⟩
      rw [hlk, if_neg fun e' => he (by rw [h1, e'])]
      exact h3
  · rw [hlk] at hd
    by_cases he : e.p = p
    · subst he
      exact Maps.has_put_same hD hp.isKey _
    · rw [if_neg he] at hd
      rw [Maps.has_put_other fun e' => he (hkp.inj hp e').symm]
      exact h.mem p d hd hkp
  · rw [hlk] at hd
    by_cases he : e.p = p
    · subst he; exact hp
    · rw [if_neg he] at hd
      exact h.kp p d hd
end Go.Proofs.YtjidbajcnomceaaGreat
