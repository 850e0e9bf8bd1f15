/- The plain form of a sum of loops, as the program makes it: a map by paths, its entries in whatever order, and the sort.
Conditions: those written at each theorem. -/
import Derived.Test.YtjidbajcnomceaaGreatLoopE
import Derived.Test.YtjidbajcnomceaaGreatLoopN
import Derived.Test.YtjidbajcnomceaaGreatSortT
import Derived.Deep.WholeRow
import Derived.Maps.OwnSet
namespace Go.Proofs.YtjidbajcnomceaaGreat
set_option linter.unusedVariables false
set_option linter.unusedSimpArgs false
set_option maxRecDepth 1000000
open Go.RowKit
open Um Tm Lm

def zer16 : List Value := List.replicate 16 (.int .i64 0)
/-- a path is copied into an array -/
theorem copy_key (w1 : World) (T ty : TypeId) (k : Nat) (a : Option Addr) (p : List Int) (h : LiesOI w1 a p) (hl : p.length ≤ 16) :
    (Builtin.copy_ #[26, 26] ty #[.slice (some ⟨w1.heap.size, 0, none⟩) 16 16, .slice a p.length k]).run Tryz.prog (w1.alloc (.cells zer16.toArray T)) = .ok (goInt p.length) (w1.alloc (.cells ((padI p).map vi).toArray T)) := by
  have hs : (Tryz.prog.info? 3).map (·.size) = some 1 := by kernel_rfl
  have hg : (w1.alloc (.cells zer16.toArray T)).heap[w1.heap.size]? = some (.cells zer16.toArray T (0, 0)) := World.alloc_heap_new w1 _
  by_cases h0 : p = []
  · subst h0
    have := run_copy_none (P := Tryz.prog) (w1.alloc (.cells zer16.toArray T)) 26 26 ty 3 (some ⟨w1.heap.size, 0, none⟩) a 16 16 0 k Tryz.underlying26 hs rfl
    exact this
  · rcases h with h | ⟨b, off, rfl, h⟩
    · exact absurd h h0
    · have hb : b < w1.heap.size := by
        have hp : 0 < p.length := List.length_pos_iff.2 h0
        exact World.block_lt_of_cell? w1 _ (h 0 _ (List.getElem?_eq_getElem hp))
      have hl2 : LiesI (w1.alloc (.cells zer16.toArray T)) b off p := h.later (by repeat (first | (with_reducible exact Below.refl _ _) | (with_reducible refine Below.setCell ?_ ?_ _) | (with_reducible refine Below.drew ?_) | (with_reducible refine Below.alloc ?_ ?_ _) | omega | (simp <;> omega)))
      have := run_copy_row (P := Tryz.prog) (w1.alloc (.cells zer16.toArray T)) 26 26 ty 3 w1.heap.size 0 16 16 ⟨b, off, none⟩ p.length k zer16.toArray T (p.map vi) Tryz.underlying26 hs hg (by rw [List.length_map]; exact (Nat.min_eq_left hl).symm) (ints_at hl2) (by simp [zer16]; omega) (ints_one p)
      rw [this, List.length_map]
      congr 1
      rw [World.setRow_alloc_new]
      congr 2
      congr 1
      rw [List.toList_toArray, List.take_zero, List.nil_append, Nat.zero_add]
      unfold zer16 padI
      rw [List.drop_replicate, List.map_append, List.map_replicate]
      rfl
theorem wpList_copyRun {w : World} {ops : Array Oper} {rest : List Oper} {o : Oper} {a : Act} {Q : Exit → Act → World → Prop} (hgd : o.guard = none) (d s : Operand) (dT sT : TypeId)
    (ho : o.op = .call { callee := .builtin .copy, args := #[d, s], argTypes := #[dT, sT] }) (x y v : Value) (w' : World) (hd : a.eval d = x) (hs : a.eval s = y) (hrun : (Builtin.copy_ #[dT, sT] o.type #[x, y]).run Tryz.prog w = .ok v w')
    (h : wpList Tryz.prog ops Q rest (a.put o.dst v) w') : wpList Tryz.prog ops Q (o :: rest) a w := by
  refine wpList_plain hgd fun K hK => ?_
  unfold Oper.wp execOp
  simp only [ho, resolve, invoke, builtin, Sem.run_bind, Sem.run_pure, Result.andThen_ok, List.map_toArray, List.map_cons, List.map_nil, hd, hs, hrun]
  exact hK _ _ h
def plp (l : List Int) : List Int := mnL l (opp l)
def pl3 (ts : List T3) : List Trm := ts.map fun t => (t.c, plp t.p)
theorem pl3_len (ts : List T3) : (pl3 ts).length = ts.length := by simp [pl3]
theorem pl3_get (ts : List T3) (k : Nat) (h : k < ts.length) : (pl3 ts)[k]'(by rw [pl3_len]; exact h) = (ts[k].c, plp ts[k].p) := by simp [pl3]
theorem plp_len (l : List Int) : (plp l).length = l.length := by
  unfold plp
  rcases mnL_mem l (opp l) with h | h <;> rw [h]
  exact opp_len l
theorem plp_st {l : List Int} (h : ∀ t ∈ l, IsStep t) : ∀ t ∈ plp l, IsStep t := by
  unfold plp
  rcases mnL_mem l (opp l) with e | e <;> rw [e]
  · exact h
  · exact opp_steps h
theorem Mp.other {w w1 : World} {B g : Nat} {D : DataW Value} {o : List Trm} (h : Mp w B D o) (hg : w.grownBy w1 (some g)) (hne : ∀ (o : Nat) (x : Int), w.cell? ⟨g, o, none⟩ ≠ some (.int .i64 x)) : Mp w1 B D o :=
  ⟨fun kl hk => by
    obtain ⟨e, h1, h2, h3, h4, h5⟩ := h.all kl hk
    exact ⟨e, h1, h2, h3, h4, h5.other hg hne⟩, h.mem, h.kp⟩
theorem map_cell {w : World} {b n : Nat} {D : DataW Value} (h : w.ownsMap Tryz.prog 149 rT b n D) : ∀ (o : Nat) (x : Int), w.cell? ⟨b, o, none⟩ ≠ some (.int .i64 x) := fun o x e => by
  obtain ⟨es, clock, h1, _⟩ := h
  simp [World.cell?, h1] at e
theorem map_is {w : World} {b n : Nat} {D : DataW Value} (h : w.ownsMap Tryz.prog 149 rT b n D) : Maps.IsMap D := by
  obtain ⟨es, h1, _⟩ := h.entries key_law
  exact ⟨es, h1⟩
theorem sum_is {c0 c : Int} {q : Option Int} (h0 : c0 = q.getD 0) (h1 : -1000000000 ≤ c) (h2 : c ≤ 1000000000) : wrap64 (c0 + c) = addO q c := by
  cases q with
  | none => simp only [Option.getD_none] at h0; subst h0; rw [Int.zero_add]; exact IntWalk.wrap64_in _ (by omega)
  | some d => simp only [Option.getD_some] at h0; subst h0; rfl
/-- what the look-up of a path answers -/
theorem look_run {w : World} {B b n : Nat} {D : DataW Value} {o : List Trm} {p : List Int} (hown : w.ownsMap Tryz.prog 149 rT b n D) (hM : Mp w B D o) (hp : Kp p) :
    ∃ c0 a0 n0 k0, (∀ W : World, W.heap[b]? = w.heap[b]? → (Instr.lookup 146 (.map (some b)) (kv p) false).run Tryz.prog W = .ok (.agg #[.int .i64 c0, .slice a0 n0 k0]) W) ∧ c0 = (Lm.look p o).getD 0 := by
  have hz := rT_mk 0 none 0 0
  have all : ∀ W : World, W.heap[b]? = w.heap[b]? → ∃ v ps, (Instr.lookup 146 (.map (some b)) (kv p) false).run Tryz.prog W = .ok v W ∧ rT v = some (D.atKey (klOf p) (.held (.agg #[.int .i64 0, .slice none 0 0])), ps) := fun W hW => by
    have ho : W.ownsMap Tryz.prog 149 rT b n D := by
      obtain ⟨es, clock, h1, h2⟩ := hown
      exact ⟨es, clock, hW.trans h1, h2⟩
    exact ho.lookup key_law underM (zeroT W) hz hp.key
  have hat : ∃ c0 a0 n0 k0, D.atKey (klOf p) (.held (.agg #[.int .i64 0, .slice none 0 0])) = .held (.agg #[.int .i64 c0, .slice a0 n0 k0]) ∧ c0 = (Lm.look p o).getD 0 := by
    by_cases hk : Maps.has D (klOf p) = true
    · obtain ⟨e, h1, h2, h3, h4, h5⟩ := hM.all _ hk
      have he : p = e.p := hp.inj h4 h1
      refine ⟨e.c, e.a, e.p.length, e.k, h2 _, ?_⟩
      rw [he, h3]
      rfl
    · have hk' : Maps.has D (klOf p) = false := by simpa using hk
      refine ⟨0, none, 0, 0, Maps.atKey_of_not_has hk' _, ?_⟩
      cases hl : Lm.look p o with
      | none => rfl
      | some d => exact absurd (hM.mem p d hl hp) hk
  obtain ⟨c0, a0, n0, k0, h1, h2⟩ := hat
  refine ⟨c0, a0, n0, k0, fun W hW => ?_, h2⟩
  obtain ⟨v, ps, hr, hv⟩ := all W hW
  obtain ⟨x, hx, hy⟩ := rT_inv hv
  rw [h1] at hy
  have : v = .agg #[.int .i64 c0, .slice a0 n0 k0] := by
    have := congrArg Prod.fst hy
    injection this with this
    exact this.symm
  rw [hr, this]
theorem field0 (c0 : Int) (a0 : Option Addr) (n0 k0 : Nat) : ∀ W, (Instr.field 60 (.agg #[.int .i64 c0, .slice a0 n0 k0]) 0).run Tryz.prog W = .ok (.int .i64 c0) W := fun _ => by kernel_rfl

theorem map_size {w : World} {b n : Nat} {D : DataW Value} (h : w.ownsMap Tryz.prog 149 rT b n D) : Maps.size D ≤ n := by
  obtain ⟨es, clock, _, _, h3, rfl⟩ := h
  rw [Maps.size_eq, length_sorted, List.length_map]
  simpa using h3
/-- what has been collected of the map -/
structure Jn (w : World) (B : Nat) (D : DataW Value) (o : List Trm) (left : Lit → Bool) (acc : List E) : Prop where
  one : ∀ e ∈ acc, Lm.look e.p o = some e.c ∧ e.c ≠ 0 ∧ left (klOf e.p) = false ∧ Kp e.p ∧ LiesNI w B e.a e.p
  two : ∀ p c, Lm.look p o = some c → c ≠ 0 → left (klOf p) = false → ∃ e ∈ acc, e.p = p ∧ e.c = c
  ne : acc.Pairwise fun e f => e.p ≠ f.p
  sub : ∀ kl, left kl = true → Maps.has D kl = true
theorem Jn.start {w : World} {B : Nat} {D : DataW Value} {o : List Trm} (h : Mp w B D o) : Jn w B D o (Maps.has D) [] :=
  ⟨fun e he => by simp at he, fun p c hl _ hf => (by have := h.mem p c hl (h.kp p c hl); rw [this] at hf; cases hf), List.Pairwise.nil, fun _ h => h⟩
theorem same_key {a b : Lit} (h : a.sameKey b = true) : a = b := by
  by_cases e : a = b
  · exact e
  · rw [Maps.sameKey_ne e] at h; cases h
/-- an entry has come -/
theorem Jn.step {w : World} {B : Nat} {D : DataW Value} {o : List Trm} {left : Lit → Bool} {acc : List E} (h : Jn w B D o left acc) (hM : Mp w B D o) {kl : Lit} {c0 : Int} {a0 : Option Addr} {n0 k0 : Nat} (hl : left kl = true) (hat : ∀ z, D.atKey kl z = .held (.agg #[.int .i64 c0, .slice a0 n0 k0])) :
    ∃ p : List Int, n0 = p.length ∧ (c0 = 0 → Jn w B D o (fun z => left z && !z.sameKey kl) acc) ∧ (c0 ≠ 0 → Jn w B D o (fun z => left z && !z.sameKey kl) (acc ++ [⟨c0, p, a0, k0⟩])) := by
  obtain ⟨e, h1, h2, h3, h4, h5⟩ := hM.all kl (h.sub kl hl)
  have hv : DataW.held (H := Value) (ev e) = .held (.agg #[.int .i64 c0, .slice a0 n0 k0]) := (h2 .nil).symm.trans (hat .nil)
  have he : e.c = c0 ∧ e.a = a0 ∧ e.p.length = n0 ∧ e.k = k0 := by
    injection hv with hv
    unfold ev at hv
    simp only [Value.agg.injEq, Array.mk.injEq, List.cons.injEq, Value.int.injEq, Value.slice.injEq, and_true, true_and] at hv
    exact ⟨hv.1, hv.2.1, hv.2.2.1, hv.2.2.2⟩
  obtain ⟨rfl, rfl, rfl, rfl⟩ := he
  have hmono : ∀ z, left z = false → (left z && !z.sameKey kl) = false := fun z hz => by rw [hz]; rfl
  have hself : ∀ p c, Lm.look p o = some c → (left (klOf p) && !(klOf p).sameKey kl) = false → left (klOf p) = false ∨ (p = e.p ∧ c = e.c) := fun p c hp hf => by
    cases hq : left (klOf p) with
    | false => exact .inl rfl
    | true =>
      rw [hq] at hf
      simp only [Bool.true_and, Bool.not_eq_false'] at hf
      have hk := same_key hf
      have hpe := (hM.kp p c hp).inj h4 (hk.trans h1)
      subst hpe
      rw [h3] at hp
      exact .inr ⟨rfl, by injection hp with hp; exact hp.symm⟩
  refine ⟨e.p, rfl, fun hz => ⟨fun f hf => ?_, fun p c hp hc hf => ?_, h.ne, fun z hz => ?_⟩, fun hz => ⟨fun f hf => ?_, fun p c hp hc hf => ?_, ?_, fun z hz => ?_⟩⟩
  · obtain ⟨q1, q2, q3, q4, q5⟩ := h.one f hf
    exact ⟨q1, q2, hmono _ q3, q4, q5⟩
  · rcases hself p c hp hf with q | ⟨q1, q2⟩
    · exact h.two p c hp hc q
    · exact absurd (q2.trans hz) hc
  · simp only [Bool.and_eq_true] at hz
    exact h.sub z hz.1
  · rcases List.mem_append.1 hf with q | q
    · obtain ⟨q1, q2, q3, q4, q5⟩ := h.one f q
      exact ⟨q1, q2, hmono _ q3, q4, q5⟩
    · rw [List.mem_singleton] at q
      subst q
      refine ⟨h3, hz, ?_, h4, h5⟩
      have : (klOf e.p).sameKey kl = true := by
        rw [h1]
        have := h4.isKey
        generalize klOf e.p = m at *
        cases m <;> simp_all [Lit.sameKey, WideAt.IsKeyLit]
      simp [this]
  · rcases hself p c hp hf with q | ⟨q1, q2⟩
    · obtain ⟨f, hf1, hf2⟩ := h.two p c hp hc q
      exact ⟨f, by simp [hf1], hf2⟩
    · exact ⟨_, List.mem_append_right _ (List.mem_singleton.2 rfl), q1.symm, q2.symm⟩
  · rw [List.pairwise_append]
    refine ⟨h.ne, by simp, fun f hf g hg => ?_⟩
    rw [List.mem_singleton] at hg
    subst hg
    intro e'
    have := (h.one f hf).2.2.1
    rw [e', ← h1, hl] at this
    cases this
  · simp only [Bool.and_eq_true] at hz
    exact h.sub z hz.1
theorem fin_eq {w : World} {B : Nat} {D : DataW Value} {ts : List Trm} {left : Lit → Bool} {acc es : List E} (h : Jn w B D (coll ts) left acc) (hl : ∀ kl, left kl = false) (hp : es.Perm acc) (hs : es.Pairwise fun s t => ¬ cmpL t.p s.p < 0) : tm es = plT ts := by
  have hpt : (tm es).Perm (tm acc) := hp.map _
  have hd : (tm acc).Pairwise fun s t => s.2 ≠ t.2 := List.pairwise_map.2 h.ne
  have hss : (tm es).Pairwise fun s t => ¬ cmpL t.2 s.2 < 0 := List.pairwise_map.2 hs
  refine asc_eq (asc_of_perm hpt hd hss) (plT_asc ts) fun t => ?_
  rw [hpt.mem_iff, plT_mem]
  constructor
  · intro ht
    obtain ⟨e, he, rfl⟩ := List.mem_map.1 ht
    have := h.one e he
    exact ⟨this.1, this.2.1⟩
  · rintro ⟨h1, h2⟩
    obtain ⟨e, he, e1, e2⟩ := h.two t.2 t.1 h1 h2 (hl _)
    exact List.mem_map.2 ⟨e, he, by rw [e1, e2]⟩

end Go.Proofs.YtjidbajcnomceaaGreat
