/- Rows of terms of the call's own, whose paths lie elsewhere: they are appended, parted, changed.
Conditions: those written at each theorem. -/
import Derived.Test.YtjidbajcnomceaaLoopY
namespace Go.Proofs.Ytjidbajcnomceaa
set_option linter.unusedVariables false
set_option linter.unusedSimpArgs false
set_option maxRecDepth 1000000
open Go.RowKit
open Um Tm Lm

theorem ecs_one (l : List E) : ∀ u ∈ l.flatMap ec, u.oneCell' = true := fun u hu => by
  obtain ⟨x, _, hx⟩ := List.mem_flatMap.1 hu
  exact ec_one x u hx
theorem run_append_E (w : World) (ty : TypeId) (base : Nat) (v : Value) (n : Nat) (xs : List Value) (ao : Option Addr) (c : Nat) (l : List E) (hown : w.ownsRow base 37 2 v n xs) (h : RowsO 2 ec w ao l) (hb : base ≤ w.heap.size) (hn : n + l.length ≤ 1000000) :
    ∃ v' w', (Builtin.append_ #[29, 29] ty #[v, .slice ao l.length c]).run Try.prog w = .ok v' w' ∧ w'.ownsRow base 37 2 v' (n + l.length) (xs ++ l.flatMap ec) ∧ w.grownBy w' v.ownBlock := by
  obtain ⟨i0, hi, hz0, hz1, hz2⟩ := info_parts info2T
  have some_ : ∀ a : Addr, (∀ j u, (l.flatMap ec)[j]? = some u → w.cell? (a.add j) = some u) → ∃ v' w', (Builtin.append_ #[29, 29] ty #[v, .slice (some a) l.length c]).run Try.prog w = .ok v' w' ∧ w'.ownsRow base 37 2 v' (n + l.length) (xs ++ l.flatMap ec) ∧ w.grownBy w' v.ownBlock := fun a hat => by
    obtain ⟨v', w', h1, h2, h3, -⟩ := run_append_own w base 29 ty 37 i0 _ 2 32 Try.underlying29 hi hz0 hz1 hz2 rfl (by decide) v n xs hown a l.length c (l.flatMap ec) (flat_len ec 2 ec_len l) hat (ecs_one l) (by unfold maxLen; omega) (by omega) hb
    exact ⟨v', w', h1, h2, h3⟩
  rcases h with rfl | ⟨b, off, rfl, h⟩
  · cases ao with
    | none => exact ⟨v, w, run_append_none_cap base _ ty _ i0 2 c Try.underlying29 hi v n xs hown, by simpa using hown, ⟨rfl, rfl, rfl, Nat.le_refl _, fun _ _ _ => rfl⟩⟩
    | some a => exact some_ a (fun j u hj => by simp at hj)
  · exact some_ _ (rows_at ec_len (by decide) h)
theorem rows_take {α : Type} {z : Nat} {enc : α → List Value} {w : World} {b off : Nat} {l : List α} (h : RowsAt z enc w b off l) (k : Nat) : RowsAt z enc w b off (l.take k) := fun i x hx j v hv => by
  rw [List.getElem?_take] at hx
  split at hx
  · exact h i x hx j v hv
  · exact absurd hx (by simp)
theorem rows_drop {α : Type} {z : Nat} {enc : α → List Value} {w : World} {b off : Nat} {l : List α} (h : RowsAt z enc w b off l) (k : Nat) : RowsAt z enc w b (off + k * z) (l.drop k) := fun i x hx j v hv => by
  rw [List.getElem?_drop] at hx
  have := h (k + i) x hx j v hv
  have e : off + (k + i) * z + j = off + k * z + i * z + j := by rw [Nat.add_mul]; omega
  rwa [e] at this
/-- the paths of terms lie below a block -/
def PB2 (w : World) (B : Nat) (es : List E) : Prop := ∀ e ∈ es, e.p.length ≤ 1000 ∧ (e.p = [] ∨ ∃ b off, e.a = some ⟨b, off, none⟩ ∧ b < B ∧ LiesI w b off e.p)
theorem PB2.later {w w1 : World} {B : Nat} {es : List E} (h : PB2 w B es) (hb : Below w.heap.size w w1) : PB2 w1 B es := fun e he => by
  obtain ⟨h1, h2⟩ := h e he
  refine ⟨h1, ?_⟩
  rcases h2 with h0 | ⟨b, off, ha, hl, hi⟩
  · exact .inl h0
  · exact .inr ⟨b, off, ha, hl, hi.later hb⟩
theorem PB2.o {w : World} {B : Nat} {es : List E} (h : PB2 w B es) : EO w es := fun e he => by
  rcases (h e he).2 with h0 | ⟨b, off, ha, -, hi⟩
  · exact .inl h0
  · exact .inr ⟨b, off, ha, hi⟩
theorem PB2.le {w : World} {B C : Nat} {es : List E} (h : PB2 w B es) (hC : B ≤ C) : PB2 w C es := fun e he => by
  obtain ⟨h1, h2⟩ := h e he
  refine ⟨h1, ?_⟩
  rcases h2 with h0 | ⟨b, off, ha, hl, hi⟩
  · exact .inl h0
  · exact .inr ⟨b, off, ha, Nat.lt_of_lt_of_le hl hC, hi⟩
theorem PB2.grown {w w1 : World} {B g : Nat} {es : List E} (h : PB2 w B es) (hg : w.grownBy w1 (some g)) (hB : B ≤ g) : PB2 w1 B es := fun e he => by
  obtain ⟨h1, h2⟩ := h e he
  refine ⟨h1, ?_⟩
  rcases h2 with h0 | ⟨b, off, ha, hl, hi⟩
  · exact .inl h0
  · exact .inr ⟨b, off, ha, hl, fun i x hx => hg.cell (hi i x hx) (by simp; omega)⟩
/-- a path that lies in memory lies below its end -/
theorem lies_lt {w : World} {ao : Option Addr} {p : List Int} (h : LiesOI w ao p) : p = [] ∨ ∃ b off, ao = some ⟨b, off, none⟩ ∧ b < w.heap.size ∧ LiesI w b off p := by
  rcases h with h | ⟨b, off, ha, hi⟩
  · exact .inl h
  · by_cases h0 : p = []
    · exact .inl h0
    · exact .inr ⟨b, off, ha, World.block_lt_of_cell? w _ (hi 0 _ (List.getElem?_eq_getElem (List.length_pos_iff.2 h0))), hi⟩
theorem PB2.one {w : World} {e : E} (h : LiesOI w e.a e.p) (hl : e.p.length ≤ 1000) : PB2 w w.heap.size [e] := fun x hx => by
  rw [List.mem_singleton] at hx
  subst hx
  exact ⟨hl, lies_lt h⟩
theorem PB2.app {w : World} {B : Nat} {l m : List E} (h : PB2 w B l) (h2 : PB2 w B m) : PB2 w B (l ++ m) := fun e he => (List.mem_append.1 he).elim (h e) (h2 e)
theorem PB2.sub {w : World} {B : Nat} {l m : List E} (h : PB2 w B l) (hs : ∀ e ∈ m, e ∈ l) : PB2 w B m := fun e he => h e (hs e he)
/-- a sum in a row of the call's own -/
structure Ow (w : World) (B base : Nat) (v : Value) (es : List E) : Prop where
  b1 : B ≤ base
  b2 : base ≤ w.heap.size
  own : w.ownsRow base 37 2 v es.length (es.flatMap ec)
  pb : PB2 w base es
theorem Ow.later {w w1 : World} {B base : Nat} {v : Value} {es : List E} (h : Ow w B base v es) (hb : Below w.heap.size w w1) : Ow w1 B base v es := ⟨h.b1, Nat.le_trans h.b2 hb.size, owned_later h.own hb, h.pb.later hb⟩
theorem Ow.rows {w : World} {B base g cap : Nat} {es : List E} (h : Ow w B base (.slice (some ⟨g, 0, none⟩) es.length cap) es) : RowsAt 2 ec w g 0 es := owned_rows ec_len h.own
theorem Ow.lt {w : World} {B base g n cap : Nat} {es : List E} (h : Ow w B base (.slice (some ⟨g, 0, none⟩) n cap) es) : base ≤ g ∧ g < w.heap.size := h.own.lt g rfl
theorem Ow.at_ {w : World} {B base g cap : Nat} {es : List E} (h : Ow w B base (.slice (some ⟨g, 0, none⟩) es.length cap) es) {k : Nat} (hk : k < es.length) : w.cell? ⟨g, k * 2, none⟩ = some (.int .i64 es[k].c) ∧ w.cell? ⟨g, k * 2 + 1, none⟩ = some (.slice es[k].a es[k].p.length es[k].k) ∧ LiesOI w es[k].a es[k].p ∧ es[k].p.length ≤ 1000 := by
  have hx : es[k]? = some es[k] := List.getElem?_eq_getElem hk
  have h0 := h.rows k _ hx 0 _ rfl
  have h1 := h.rows k _ hx 1 _ rfl
  rw [Nat.zero_add] at h0 h1
  exact ⟨h0, h1, h.pb.o _ (List.getElem_mem hk), (h.pb _ (List.getElem_mem hk)).1⟩
theorem Ow.cap {w : World} {B base g cap : Nat} {es : List E} (h : Ow w B base (.slice (some ⟨g, 0, none⟩) es.length cap) es) : es.length ≤ cap ∧ cap ≤ maxLen := by
  rcases h.own.2 with ⟨h0, -⟩ | ⟨g', cap', cur, h0, -, -, h1, h2, -⟩
  · simp at h0
  · simp only [Value.slice.injEq, Option.some.injEq] at h0
    obtain ⟨-, -, rfl⟩ := h0
    exact ⟨h1, h2⟩
theorem flat_setE (es : List E) (i : Nat) (c : Int) (h : i < es.length) : (es.flatMap ec).set (i * 2) (.int .i64 c) = (es.set i { es[i] with c := c }).flatMap ec := by
  induction es generalizing i with
  | nil => simp at h
  | cons t ts ih =>
    cases i with
    | zero =>
      simp only [List.set_cons_zero, List.flatMap_cons, Nat.zero_mul]
      rw [List.set_append_left _ _ (by rw [ec_len]; omega)]
      rfl
    | succ i =>
      simp only [List.set_cons_succ, List.flatMap_cons]
      rw [List.set_append_right _ _ (by rw [ec_len]; omega), ec_len, show (i + 1) * 2 - 2 = i * 2 by omega]
      rw [ih i (by simpa using h)]
      rfl
/-- a coefficient is written -/
theorem Ow.put {w : World} {B base g cap : Nat} {es : List E} (h : Ow w B base (.slice (some ⟨g, 0, none⟩) es.length cap) es) {k : Nat} (hk : k < es.length) (c : Int) : Ow (w.setCell ⟨g, k * 2, none⟩ (.int .i64 c)) B base (.slice (some ⟨g, 0, none⟩) (es.set k { es[k] with c := c }).length cap) (es.set k { es[k] with c := c }) ∧ w.grownBy (w.setCell ⟨g, k * 2, none⟩ (.int .i64 c)) (some g) := by
  have hs := h.own.stored (k * 2) (.int .i64 c)
  rw [flat_setE es k c hk] at hs
  refine ⟨⟨h.b1, Nat.le_trans h.b2 hs.2.size, by rw [List.length_set]; exact hs.1, ?_⟩, hs.2⟩
  have hp := h.pb.grown hs.2 h.lt.1
  intro e he
  rcases List.mem_or_eq_of_mem_set he with hm | rfl
  · exact hp e hm
  · exact hp es[k] (List.getElem_mem hk)
/-- the three parts of a longer sum -/
theorem grow_three (w : World) (B base g cap p : Nat) (es : List E) (x : E) (h : Ow w B base (.slice (some ⟨g, 0, none⟩) es.length cap) es) (hp : p ≤ es.length) (hx : LiesOI w x.a x.p) (hl : x.p.length ≤ 1000) (hB : B ≤ w.heap.size) (hn : es.length ≤ 10000) (c1 c2 : Nat) (a3 : Option Addr) (n3 : Nat) (hn3 : n3 = es.length - p) (h3 : es.drop p = [] ∨ a3 = some ⟨g, p * 2, none⟩) :
    ∃ v1 X1 v2 X2 v3 X3, (Builtin.append_ #[29, 29] 29 #[.slice none 0 0, .slice (some ⟨g, 0, none⟩) p c1]).run Try.prog w = .ok v1 X1 ∧
      (Builtin.append_ #[29, 29] 29 #[v1, .slice (some ⟨X1.heap.size, 0, none⟩) 1 1]).run Try.prog (X1.alloc (.cells #[.int .i64 x.c, .slice x.a x.p.length x.k] 37)) = .ok v2 X2 ∧
      (Builtin.append_ #[29, 29] 29 #[v2, .slice a3 n3 c2]).run Try.prog X2 = .ok v3 X3 ∧
      Below w.heap.size w X1 ∧ Below w.heap.size w X3 ∧ ∃ g3 k3, v3 = .slice (some ⟨g3, 0, none⟩) (es.take p ++ x :: es.drop p).length k3 ∧ Ow X3 B w.heap.size v3 (es.take p ++ x :: es.drop p) := by
  have lt : (es.take p).length = p := by rw [List.length_take]; omega
  have ld : (es.drop p).length = es.length - p := List.length_drop
  have hr := h.rows
  obtain ⟨v1, X1, hr1, own1, gr1⟩ := run_append_E w 29 w.heap.size (.slice none 0 0) 0 [] (some ⟨g, 0, none⟩) c1 (es.take p) (World.ownsRow_nil _ _ _ _) (.inr ⟨g, 0, rfl, rows_take hr p⟩) (Nat.le_refl _) (by omega)
  have b1 : Below w.heap.size w X1 := (Below.refl _ _).grown gr1 (Nat.le_refl _) (fun j hj => by simp [Value.ownBlock] at hj)
  obtain ⟨Y1, hY1⟩ : ∃ Y1, Y1 = X1.alloc (.cells #[.int .i64 x.c, .slice x.a x.p.length x.k] 37) := ⟨_, rfl⟩
  have bY : Below w.heap.size w Y1 := by rw [hY1]; exact b1.alloc b1.size _
  have hsing : RowsO 2 ec Y1 (some ⟨X1.heap.size, 0, none⟩) [x] := .inr ⟨X1.heap.size, 0, rfl, fun i y hy j v hv => by
    match i, hy with
    | 0, hy =>
      simp only [List.getElem?_cons_zero, Option.some.injEq] at hy
      subst hy
      match j, hv with
      | 0, hv => simp [ec] at hv; subst hv; rw [hY1]; simp [go_sem]
      | 1, hv => simp [ec] at hv; subst hv; rw [hY1]; simp [go_sem]
      | n + 2, hv => simp [ec] at hv
    | n + 1, hy => simp at hy⟩
  obtain ⟨v2, X2, hr2, own2, gr2⟩ := run_append_E Y1 29 w.heap.size v1 (0 + (es.take p).length) ([] ++ (es.take p).flatMap ec) (some ⟨X1.heap.size, 0, none⟩) 1 [x] (by rw [hY1]; exact own1.alloc _) hsing bY.size (by simp [lt]; omega)
  have b2 : Below w.heap.size w X2 := bY.grown gr2 bY.size (fun j hj => (own1.lt j hj).1)
  obtain ⟨v3, X3, hr3, own3, gr3⟩ := run_append_E X2 29 w.heap.size v2 _ _ a3 c2 (es.drop p) own2 (h3.imp id fun e => ⟨g, p * 2, e, by have := rows_drop (hr.later b2) p; rwa [Nat.zero_add] at this⟩) b2.size (by simp [lt, ld]; omega)
  have b3 : Below w.heap.size w X3 := b2.grown gr3 b2.size (fun j hj => (own2.lt j hj).1)
  have e1 : 0 + (es.take p).length + [x].length + (es.drop p).length = (es.take p ++ x :: es.drop p).length := by simp; omega
  have e2 : [] ++ (es.take p).flatMap ec ++ [x].flatMap ec ++ (es.drop p).flatMap ec = (es.take p ++ x :: es.drop p).flatMap ec := by simp
  rw [e1, e2] at own3
  have hpos : 0 < (es.take p ++ x :: es.drop p).length := by simp; omega
  obtain ⟨g3, k3, hv3⟩ : ∃ g3 k3, v3 = .slice (some ⟨g3, 0, none⟩) (es.take p ++ x :: es.drop p).length k3 := by
    rcases own3.2 with ⟨-, h0⟩ | ⟨g', cap', cur, hv, -⟩
    · omega
    · exact ⟨g', cap', hv⟩
  rw [lt] at hr1
  rw [hY1] at hr2
  rw [ld, ← hn3] at hr3
  refine ⟨v1, X1, v2, X2, v3, X3, hr1, hr2, hr3, b1, b3, g3, k3, hv3, hB, b3.size, own3, ?_⟩
  have hp1 : PB2 w w.heap.size es := h.pb.le h.b2
  refine PB2.later ?_ b3
  refine PB2.app (hp1.sub fun e he => List.mem_of_mem_take he) ?_
  have := (PB2.one hx hl).app (hp1.sub (m := es.drop p) fun e he => List.mem_of_mem_drop he)
  simpa using this
theorem grow_nil (w : World) (B : Nat) (x : E) (hx : LiesOI w x.a x.p) (hl : x.p.length ≤ 1000) (hB : B ≤ w.heap.size) :
    ∃ v2 X2, (Builtin.append_ #[29, 29] 29 #[.slice none 0 0, .slice (some ⟨w.heap.size, 0, none⟩) 1 1]).run Try.prog (w.alloc (.cells #[.int .i64 x.c, .slice x.a x.p.length x.k] 37)) = .ok v2 X2 ∧
      (∀ X v n xs c, X.ownsRow w.heap.size 37 2 v n xs → (Builtin.append_ #[29, 29] 29 #[v, .slice none 0 c]).run Try.prog X = .ok v X) ∧
      Below w.heap.size w X2 ∧ ∃ g3 k3, v2 = .slice (some ⟨g3, 0, none⟩) 1 k3 ∧ Ow X2 B w.heap.size v2 [x] := by
  obtain ⟨i0, hi, hz0, hz1, hz2⟩ := info_parts info2T
  obtain ⟨Y1, hY1⟩ : ∃ Y1, Y1 = w.alloc (.cells #[.int .i64 x.c, .slice x.a x.p.length x.k] 37) := ⟨_, rfl⟩
  have bY : Below w.heap.size w Y1 := by rw [hY1]; exact (Below.refl _ _).alloc (Nat.le_refl _) _
  have hsing : RowsO 2 ec Y1 (some ⟨w.heap.size, 0, none⟩) [x] := .inr ⟨w.heap.size, 0, rfl, fun i y hy j v hv => by
    match i, hy with
    | 0, hy =>
      simp only [List.getElem?_cons_zero, Option.some.injEq] at hy
      subst hy
      match j, hv with
      | 0, hv => simp [ec] at hv; subst hv; rw [hY1]; simp [go_sem]
      | 1, hv => simp [ec] at hv; subst hv; rw [hY1]; simp [go_sem]
      | n + 2, hv => simp [ec] at hv
    | n + 1, hy => simp at hy⟩
  obtain ⟨v2, X2, hr2, own2, gr2⟩ := run_append_E Y1 29 w.heap.size (.slice none 0 0) 0 [] (some ⟨w.heap.size, 0, none⟩) 1 [x] (World.ownsRow_nil _ _ _ _) hsing bY.size (by simp)
  have b2 : Below w.heap.size w X2 := bY.grown gr2 bY.size (fun j hj => by simp [Value.ownBlock] at hj)
  rw [Nat.zero_add, List.nil_append] at own2
  obtain ⟨g3, k3, hv3⟩ : ∃ g3 k3, v2 = .slice (some ⟨g3, 0, none⟩) 1 k3 := by
    rcases own2.2 with ⟨-, h0⟩ | ⟨g', cap', cur, hv, -⟩
    · simp at h0
    · exact ⟨g', cap', hv⟩
  rw [hY1] at hr2
  exact ⟨v2, X2, hr2, fun X v n xs c ho => run_append_none_cap w.heap.size _ _ _ i0 2 c Try.underlying29 hi v n xs ho, b2, g3, k3, hv3, hB, b2.size, own2, (PB2.one hx hl).later b2⟩

/-! ### where a term is put -/
theorem ins_at (t : Trm) (o : List Trm) (k : Nat) (hk : k ≤ o.length) (h : ∀ (j : Nat) (hj : j < o.length), j < k → cmpL o[j].2 t.2 < 0) : ins t o = o.take k ++ ins t (o.drop k) := by
  induction k generalizing o with
  | zero => simp
  | succ k ih =>
    cases o with
    | nil => simp at hk
    | cons s r =>
      have h0 := h 0 (by simp) (by omega)
      simp only [List.getElem_cons_zero] at h0
      have := ih r (by simpa using hk) (fun j hj hjk => by
        have := h (j + 1) (by simpa using hj) (by omega)
        simpa using this)
      simp only [List.take_succ_cons, List.drop_succ_cons, List.cons_append]
      rw [← this]
      conv => lhs; unfold ins
      rw [if_pos h0]
theorem tm_take (es : List E) (k : Nat) : tm (es.take k) = (tm es).take k := by simp [tm, List.map_take]
theorem tm_drop (es : List E) (k : Nat) : tm (es.drop k) = (tm es).drop k := by simp [tm, List.map_drop]
theorem tm_get (es : List E) (j : Nat) (hj : j < (tm es).length) : (tm es)[j] = ((es[j]'(by simpa [tm] using hj)).c, (es[j]'(by simpa [tm] using hj)).p) := by simp [tm]
/-- .. ahead of the first that is not less -/
theorem ins_new {es : List E} {x : E} {p : Nat} (hp : p ≤ es.length) (h : ∀ (j : Nat) (hj : j < es.length), j < p → cmpL es[j].p x.p < 0) (hn : ∀ hj : p < es.length, ¬ cmpL es[p].p x.p < 0 ∧ es[p].p ≠ x.p) : tm (es.take p ++ x :: es.drop p) = ins (x.c, x.p) (tm es) := by
  rw [ins_at (x.c, x.p) (tm es) p (by rw [tm_len]; exact hp) (fun j hj hjp => by rw [tm_get]; exact h j _ hjp)]
  have e1 : tm (es.take p ++ x :: es.drop p) = (tm es).take p ++ (x.c, x.p) :: (tm es).drop p := by
    rw [← tm_take, ← tm_drop]; simp [tm]
  rw [e1]
  congr 1
  by_cases hlt : p < es.length
  · have hd : (tm es).drop p = (es[p].c, es[p].p) :: (tm es).drop (p + 1) := by
      rw [List.drop_eq_getElem_cons (by rw [tm_len]; exact hlt), tm_get]
    obtain ⟨h1, h2⟩ := hn hlt
    rw [hd]
    unfold ins
    rw [if_neg h1, if_neg h2]
  · rw [List.drop_eq_nil_of_le (by rw [tm_len]; omega)]
    rfl
theorem ins_old {es : List E} {c : Int} {P : List Int} {p : Nat} (hp : p < es.length) (h : ∀ (j : Nat) (hj : j < es.length), j < p → cmpL es[j].p P < 0) (hn : es[p].p = P) : tm (es.set p { es[p] with c := ad es[p].c c }) = ins (c, P) (tm es) := by
  rw [ins_at (c, P) (tm es) p (by rw [tm_len]; omega) (fun j hj hjp => by rw [tm_get]; exact h j _ hjp)]
  have hd : (tm es).drop p = (es[p].c, es[p].p) :: (tm es).drop (p + 1) := by
    rw [List.drop_eq_getElem_cons (by rw [tm_len]; exact hp), tm_get]
  rw [hd]
  have e2 : ins (c, P) ((es[p].c, es[p].p) :: (tm es).drop (p + 1)) = (ad es[p].c c, es[p].p) :: (tm es).drop (p + 1) := by
    unfold ins
    rw [if_neg (by rw [hn, cmpL_irr]; omega), if_pos hn]
  rw [e2]
  have e3 : es.set p { es[p] with c := ad es[p].c c } = es.take p ++ { es[p] with c := ad es[p].c c } :: es.drop (p + 1) := List.set_eq_take_append_cons_drop.trans (if_pos hp)
  rw [e3, ← tm_take, ← tm_drop]
  simp [tm]
end Go.Proofs.Ytjidbajcnomceaa
