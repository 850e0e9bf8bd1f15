/- Terms in memory of the call's own are sorted by their paths.
Conditions: those written at each theorem. -/
import Derived.Test.YtjidbajcnomceaaGreatLoopK
import Derived.Test.YtjidbajcnomceaaGreatShSort
namespace Go.Proofs.YtjidbajcnomceaaGreat
set_option linter.unusedVariables false
set_option linter.unusedSimpArgs false
set_option maxRecDepth 1000000
open Go.RowKit Go.Sort Go.Proofs
open Um Tm Lm

def zE : E := ⟨0, [], none, 0⟩
instance : Inhabited E := ⟨zE⟩
abbrev Sb (es : List E) := { e : E // e ∈ es ∨ e = zE }
instance (es : List E) : Inhabited (Sb es) := ⟨⟨zE, .inr rfl⟩⟩
def encS (es : List E) (x : Sb es) : List Value := ec x.1
def cfS (es : List E) (x y : Sb es) : Int := cmpL x.1.p y.1.p
theorem ltS (es : List E) (x y : Sb es) : ltOf (cfS es) x y = decide (cmpL x.1.p y.1.p < 0) := rfl
theorem swoS (es : List E) : SWO (ltOf (cfS es)) where
  irrefl x := by rw [ltS]; simp [cmpL_irr]
  trans x y z h1 h2 := by
    rw [ltS] at *
    simp only [decide_eq_true_eq] at *
    exact cmpL_trans h1 h2
  ntrans x y z h1 h2 := by
    rw [ltS] at *
    simp only [decide_eq_false_iff_not] at *
    exact cmpL_ntrans h1 h2
/-- the paths lie outside the row that is sorted -/
def Off (w : World) (g : Nat) (es : List E) : Prop := ∀ e ∈ es, e.p.length ≤ 1000 ∧ (e.p = [] ∨ ∃ b off, e.a = some ⟨b, off, none⟩ ∧ b ≠ g ∧ LiesI w b off e.p)
theorem size_putRow {α : Type} [Inhabited α] (enc : α → Value) (w : World) (blk off : Nat) (d : Array α) : (putRow enc w blk off d).heap.size = w.heap.size := by
  simp [putRow, mapBlock]
theorem off_sort {w : World} {g : Nat} {es : List E} (h : Off w g es) (enc : Sb es → List Value) (m : Nat) (dk : Array (Sb es)) (os : Array Obj) {e : E} (he : e ∈ es) : LiesOI (sortWorldK enc 2 w g 0 m dk os) e.a e.p := by
  rcases (h e he).2 with h0 | ⟨b, off, ha, hne, hl⟩
  · exact .inl h0
  · refine .inr ⟨b, off, ha, fun i x hx => ?_⟩
    have f := hl i x hx
    have hb := World.block_lt_of_cell? w _ f
    unfold sortWorldK
    rw [cell?_grow _ _ _ (by unfold putRowK; rw [size_putRow]; exact hb)]
    rw [cell?_putRowK_other enc 2 _ _ _ _ _ hne, cell?_ahead]
    exact f
theorem cmpLaysS {w : World} {g : Nat} {es : List E} (h : Off w g es) (n : Nat) : CmpLays Tryz.prog 114 #[] (encS es) 2 (cfS es) g 0 n w := fun m os dk _ x y => by
  have side : ∀ z : Sb es, LiesOI (sortWorldK (encS es) 2 w g 0 m dk os) z.1.a z.1.p ∧ z.1.p.length ≤ 1000 := fun z => by
    rcases z.2 with hz | hz
    · exact ⟨off_sort h _ m dk os hz, (h _ hz).1⟩
    · rw [hz]; exact ⟨.inl rfl, by simp [zE]⟩
  have hc := closure_lays x.1 y.1 (sortWorldK (encS es) 2 w g 0 m dk os) (side x).1 (side y).1 (side x).2 (side y).2
  exact hc
theorem aggT : ∀ w, (isAgg 60).run Tryz.prog w = .ok true w := fun _ => by kernel_rfl
theorem sizeT : ∀ w, (Go.sizeOf 60).run Tryz.prog w = .ok 2 w := fun _ => by kernel_rfl
theorem entS : ∀ args w, (callFunc 114 args).run Tryz.prog w = .ok (.enter 114 args) w := enters_of Tryz.func114 (by kernel_rfl) rfl
def arrS (es : List E) : Array (Sb es) := (es.attach.map fun x => (⟨x.1, .inl x.2⟩ : Sb es)).toArray
theorem arrS_size (es : List E) : (arrS es).size = es.length := by simp [arrS]
theorem arrS_list (es : List E) : (arrS es).toList.map (·.1) = es := by
  unfold arrS
  rw [List.toList_toArray, List.map_map]
  exact (List.map_congr_left (fun _ _ => rfl)).trans (List.attach_map_subtype_val es)
theorem arrS_get (es : List E) (i : Nat) (hi : i < es.length) : ((arrS es)[i]!).1 = es[i] := by
  have h : i < (arrS es).size := by rw [arrS_size]; exact hi
  rw [getElem!_pos _ i h]
  have e : (arrS es)[i] = (arrS es).toList[i]'(by simpa using h) := by simp
  rw [e]
  have h2 : ((arrS es).toList.map (·.1))[i]? = es[i]? := by rw [arrS_list]
  rw [List.getElem?_map, List.getElem?_eq_getElem (by simpa using h), List.getElem?_eq_getElem hi] at h2
  simpa using h2
theorem holdsS {w : World} {base g cap : Nat} {T : TypeId} {es : List E} (h : w.ownsRow base T 2 (.slice (some ⟨g, 0, none⟩) es.length cap) es.length (es.flatMap ec)) : HoldsK (encS es) 2 w g 0 (arrS es) := fun j hj => by
  rw [size_flatK, arrS_size] at hj
  have hi : j / 2 < es.length := by omega
  have e : j = j / 2 * 2 + j % 2 := by omega
  refine ⟨?_, by rw [Nat.zero_add]; exact h.frozenAt j⟩
  rw [Nat.zero_add, h.cellAt j hj, get_flatK _ _ _ _ (by rw [arrS_size]; exact hj)]
  show _ = some ((ec ((arrS es)[j / 2]!).1)[j % 2]!)
  rw [arrS_get es _ hi]
  have hf := flat_get ec 2 ec_len es (j / 2) es[j / 2] (List.getElem?_eq_getElem hi) (j % 2) (Nat.mod_lt _ (by decide))
  rw [← e] at hf
  rw [hf]
  have h2 : j % 2 < (ec es[j / 2]).length := by rw [ec_len]; exact Nat.mod_lt _ (by decide)
  rw [List.getElem?_eq_getElem h2, getElem!_pos (ec es[j / 2]) (j % 2) h2]
theorem grownS {w : World} {g n : Nat} {es : List E} (enc : Sb es → List Value) (d : Array (Sb es)) (os : Array Obj) : w.grownBy (sortWorldK enc 2 w g 0 n d os) (some g) := by
  refine ⟨rfl, rfl, rfl, ?_, fun k hk hne => ?_⟩
  · simp [sortWorldK, Sort.grow, putRowK, size_putRow]
  · unfold sortWorldK
    rw [heap_grow_old _ _ (by unfold putRowK; rw [size_putRow]; exact hk)]
    have : g ≠ k := fun e => hne (by rw [e])
    simp [putRowK, putRow, mapBlock, Sort.ahead, Array.getElem?_modify, this]
set_option maxHeartbeats 1600000 in
theorem sortT_any {w : World} {base g cap : Nat} {es : List E} (h : w.ownsRow base 60 2 (.slice (some ⟨g, 0, none⟩) es.length cap) es.length (es.flatMap ec)) (ho : Off w g es) (hn : es.length ≤ 1000000) :
    Calls Tryz.prog 113 #[.slice (some ⟨g, 0, none⟩) es.length cap, .func (.func 114) #[] #[]] w fun e w' => e = .returned (.tuple #[]) ∧ ∃ es' : List E, es'.Perm es ∧ (es'.Pairwise fun s t => ¬ cmpL t.p s.p < 0) ∧ RowsAt 2 ec w' g 0 es' ∧ w.grownBy w' (some g) := by
  have hg : g < w.heap.size := (h.lt g rfl).2
  have hH := holdsS h
  have hcon := AnyQ.slices_SortFunc sortT 2 aggT sizeT (encS es) (fun x => ec_len x.1) (fun x v hv => ec_one x.1 v hv) (cfS es) (swoS es) 114 #[] g 0 cap (arrS es) w entS (cmpLaysS ho _) hH hg (by rw [arrS_size]; omega)
  change Calls Tryz.prog 113 _ _ _ at hcon
  rw [arrS_size] at hcon
  refine hcon.mono fun e w' ⟨he, d', n, os, hp, hs, hw⟩ => ⟨he, d'.toList.map (·.1), ?_, ?_, ?_, ?_⟩
  · have h1 := hp.2.2
    have hz : d'.size = es.length := hp.1.trans (arrS_size es)
    rw [Array.extract_eq_self_of_le (by omega), Array.extract_eq_self_of_le (by rw [arrS_size]; omega)] at h1
    have h2 := h1.map (·.1)
    rwa [arrS_list] at h2
  · have hz : d'.size = es.length := hp.1.trans (arrS_size es)
    rw [List.pairwise_iff_getElem]
    intro i j hi hj hij
    simp only [List.length_map, Array.length_toList] at hi hj
    have := hs i j (Nat.zero_le _) hij (by omega)
    rw [ltS] at this
    simp only [decide_eq_false_iff_not] at this
    rw [getElem!_pos _ i hi, getElem!_pos _ j hj] at this
    simpa using this
  · have hz : d'.size = (arrS es).size := hp.1
    have hK := holdsK_sortWorldK_c _ _ _ _ _ (arrS es) d' n os hH hg hz
    rw [← hw] at hK
    intro i x hx j v hv
    have hi : i < d'.size := by have := (List.getElem?_eq_some_iff.1 hx).1; simpa using this
    have hj : j < 2 := by have := (List.getElem?_eq_some_iff.1 hv).1; rwa [ec_len] at this
    have hc := (hK (i * 2 + j) (by rw [size_flatK]; omega)).1
    rw [get_flatK _ _ _ _ (by omega), show (i * 2 + j) / 2 = i by omega, show (i * 2 + j) % 2 = j by omega] at hc
    rw [List.getElem?_map] at hx
    have hd : d'.toList[i]? = some d'[i]! := by rw [getElem!_pos _ i hi]; simp [hi]
    rw [hd] at hx
    simp only [Option.map_some, Option.some.injEq] at hx
    have hcv : (encS es d'[i]!)[j]! = v := by
      have h3 : j < (encS es d'[i]!).length := by show j < (ec _).length; rw [ec_len]; exact hj
      rw [getElem!_pos (encS es d'[i]!) j h3]
      have h4 : (encS es d'[i]!)[j]? = some v := by show (ec (d'[i]!).1)[j]? = some v; rw [hx]; exact hv
      rw [List.getElem?_eq_getElem h3] at h4
      simpa using h4
    rw [hcv] at hc
    rw [show 0 + i * 2 + j = 0 + (i * 2 + j) by omega]
    exact hc
  · rw [hw]
    exact grownS _ _ _
end Go.Proofs.YtjidbajcnomceaaGreat
