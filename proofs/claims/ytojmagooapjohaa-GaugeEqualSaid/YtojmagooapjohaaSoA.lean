/- Bases of the solutions of equations with integers: what narrowing keeps; mathematics, no Go.
Conditions: those written at each theorem. -/
import Derived.Test.YtojmagooapjohaaGauF
import Derived.Test.YtojmagooapjohaaIBox
import Derived.Test.YtojmagooapjohaaQuatA
import Derived.Scope
import Derived.ScopeJumps
import Derived.WalkMore
namespace Go.Proofs.Ytojmagooapjohaa
set_option linter.unusedVariables false
set_option linter.unusedSimpArgs false
set_option maxRecDepth 1000000
open Um Tm

/-- a sum of multiples -/
def smf (f : Q → Int) : List Int → List Q → Int
  | c :: cs, q :: B => c * f q + smf f cs B
  | _, _ => 0
theorem smf_nil (f : Q → Int) (cs : List Int) : smf f cs [] = 0 := by cases cs <;> rfl
theorem smf_mid (f : Q → Int) (w : Q) (B2 : List Q) : ∀ (B1 : List Q) (c1 : List Int) (c : Int) (c2 : List Int), c1.length = B1.length → smf f (c1 ++ c :: c2) (B1 ++ w :: B2) = smf f (c1 ++ c2) (B1 ++ B2) + c * f w := by
  intro B1
  induction B1 with
  | nil => intro c1 c c2 h; cases c1 with
    | nil => simp only [List.nil_append, smf]; omega
    | cons x l => simp at h
  | cons q B1 ih => intro c1 c c2 h; cases c1 with
    | nil => simp at h
    | cons x l =>
      have := ih l c c2 (by simpa using h)
      simp only [List.cons_append, smf, this]
      omega
theorem smf_map (f : Q → Int) (k : Int) : ∀ (B : List Q) (cs : List Int), smf f (cs.map (k * ·)) B = k * smf f cs B := by
  intro B
  induction B with
  | nil => intro cs; rw [smf_nil, smf_nil]; simp
  | cons q B ih => intro cs; cases cs with
    | nil => simp [smf]
    | cons c cs => simp only [List.map_cons, smf, ih]; grind
theorem smf_zero (f : Q → Int) : ∀ (B : List Q) (cs : List Int), (∀ q ∈ B, f q = 0) → smf f cs B = 0 := by
  intro B
  induction B with
  | nil => intro cs _; exact smf_nil f cs
  | cons q B ih => intro cs h; cases cs with
    | nil => rfl
    | cons c cs => simp only [smf, h q List.mem_cons_self, ih cs (fun x hx => h x (List.mem_cons_of_mem _ hx))]; simp
theorem dot4_cmp (e q : Q) : dot4 e q = e.a * cmp 0 q + e.b * cmp 1 q + e.c * cmp 2 q + e.d * cmp 3 q := by simp [dot4, cmp]
theorem smf_dot (e : Q) : ∀ (B : List Q) (cs : List Int), smf (dot4 e) cs B = e.a * smf (cmp 0) cs B + e.b * smf (cmp 1) cs B + e.c * smf (cmp 2) cs B + e.d * smf (cmp 3) cs B := by
  intro B
  induction B with
  | nil => intro cs; simp [smf_nil]
  | cons q B ih => intro cs; cases cs with
    | nil => simp [smf]
    | cons c cs => simp only [smf, ih, dot4_cmp]; grind
/-- no combination is 0 but that of zeros -/
def Ind (B : List Q) : Prop := ∀ cs : List Int, cs.length = B.length → (∀ k, k < 4 → smf (cmp k) cs B = 0) → ∀ c ∈ cs, c = 0
/-- each solution has a multiple that is a combination -/
def Spn (P : Q → Prop) (B : List Q) : Prop := ∀ q, P q → ∃ (m : Int) (cs : List Int), m ≠ 0 ∧ cs.length = B.length ∧ ∀ k, k < 4 → m * cmp k q = smf (cmp k) cs B
/-- what narrowing makes of a quaternion, in lowest terms -/
def Nr (e w q q' : Q) : Prop := ∃ k : Int, k ≠ 0 ∧ ∀ j, j < 4 → dot4 e w * cmp j q - dot4 e q * cmp j w = k * cmp j q'
inductive NrL (e w : Q) : List Q → List Q → Prop
  | nil : NrL e w [] []
  | cons {q q' : Q} {l l' : List Q} : Nr e w q q' → NrL e w l l' → NrL e w (q :: l) (q' :: l')
theorem NrL.len {e w : Q} {l l' : List Q} (h : NrL e w l l') : l'.length = l.length := by
  induction h with
  | nil => rfl
  | cons _ _ ih => simp [ih]
theorem NrL.back {e w : Q} {l l' : List Q} (h : NrL e w l l') : ∀ cs' : List Int, cs'.length = l'.length → ∃ (K t : Int) (cs : List Int), K ≠ 0 ∧ cs.length = l.length ∧ (∀ j, j < 4 → K * smf (cmp j) cs' l' = dot4 e w * smf (cmp j) cs l - t * cmp j w) ∧ ((∀ c ∈ cs, c = 0) → ∀ c ∈ cs', c = 0) := by
  induction h with
  | nil =>
    intro cs' h
    refine ⟨1, 0, [], by decide, rfl, fun j _ => by simp [smf_nil], fun _ => ?_⟩
    have : cs' = [] := List.length_eq_zero_iff.1 h
    subst this
    simp
  | @cons q q' l l' hq _ ih =>
    intro cs' hl
    cases cs' with
    | nil => simp at hl
    | cons c' cs' =>
      obtain ⟨K, t, cs, hK, hc, hs, hz⟩ := ih cs' (by simpa using hl)
      obtain ⟨k, hk, hj⟩ := hq
      refine ⟨K * k, K * c' * dot4 e q + k * t, (K * c') :: cs.map (k * ·), ?_, by simp [hc], fun j h4 => ?_, fun h => ?_⟩
      · intro h0
        rcases Int.mul_eq_zero.1 h0 with h0 | h0
        · exact hK h0
        · exact hk h0
      · have h1 := hs j h4
        have h2 := hj j h4
        simp only [smf, smf_map]
        have e1 : K * k * (c' * cmp j q' + smf (cmp j) cs' l') = K * c' * (k * cmp j q') + k * (K * smf (cmp j) cs' l') := by grind
        rw [e1, ← h2, h1]
        grind
      · intro c hc'
        have hx := h (K * c') List.mem_cons_self
        have hy : ∀ c ∈ cs, c = 0 := fun c hm => by
          have := h (k * c) (List.mem_cons_of_mem _ (List.mem_map.2 ⟨c, hm, rfl⟩))
          rcases Int.mul_eq_zero.1 this with h0 | h0
          · exact absurd h0 hk
          · exact h0
        rcases List.mem_cons.1 hc' with rfl | hm
        · rcases Int.mul_eq_zero.1 hx with h0 | h0
          · exact absurd h0 hK
          · exact h0
        · exact hz hy c hm
theorem NrL.forth {e w : Q} {l l' : List Q} (h : NrL e w l l') : ∀ cs : List Int, cs.length = l.length → ∃ cs' : List Int, cs'.length = l'.length ∧ ∀ j, j < 4 → smf (cmp j) cs' l' = dot4 e w * smf (cmp j) cs l - smf (dot4 e) cs l * cmp j w := by
  induction h with
  | nil => intro cs _; exact ⟨[], rfl, fun j _ => by simp [smf_nil]⟩
  | @cons q q' l l' hq _ ih =>
    intro cs hl
    cases cs with
    | nil => simp at hl
    | cons c cs =>
      obtain ⟨cs', hc, hs⟩ := ih cs (by simpa using hl)
      obtain ⟨k, hk, hj⟩ := hq
      refine ⟨(c * k) :: cs', by simp [hc], fun j h4 => ?_⟩
      have h1 := hs j h4
      have h2 := hj j h4
      simp only [smf, h1]
      have e1 : c * k * cmp j q' = c * (k * cmp j q') := by grind
      rw [e1, ← h2]
      grind
theorem split_at {n m : Nat} (cs : List Int) (h : cs.length = n + (m + 1)) : ∃ c1 c c2, cs = c1 ++ c :: c2 ∧ c1.length = n ∧ c2.length = m := by
  have h1 : n < cs.length := by omega
  refine ⟨cs.take n, cs[n], cs.drop (n + 1), ?_, by simp; omega, by simp; omega⟩
  rw [← List.drop_eq_getElem_cons h1, List.take_append_drop]
theorem Ind.narrow {e w : Q} {B1 B2 B' : List Q} (h : Ind (B1 ++ w :: B2)) (hw : dot4 e w ≠ 0) (hn : NrL e w (B1 ++ B2) B') : Ind B' := fun cs' hl hs => by
  obtain ⟨K, t, cs, hK, hc, hj, hz⟩ := hn.back cs' hl
  refine hz fun c hm => ?_
  have hlen : cs.length = B1.length + B2.length := by rw [hc]; simp
  have hA := h (((cs.take B1.length).map (dot4 e w * ·)) ++ (-t) :: ((cs.drop B1.length).map (dot4 e w * ·))) (by simp; omega) (fun k hk => by
    rw [smf_mid _ _ _ _ _ _ _ (by simp; omega), ← List.map_append, List.take_append_drop, smf_map]
    have := hj k hk
    rw [hs k hk] at this
    grind)
  have h2 : ∀ x ∈ cs, dot4 e w * x = 0 := fun x hx => by
    rw [← List.take_append_drop B1.length cs] at hx
    rcases List.mem_append.1 hx with hx | hx
    · exact hA _ (List.mem_append_left _ (List.mem_map.2 ⟨x, hx, rfl⟩))
    · exact hA _ (List.mem_append_right _ (List.mem_cons_of_mem _ (List.mem_map.2 ⟨x, hx, rfl⟩)))
  rcases Int.mul_eq_zero.1 (h2 c hm) with h0 | h0
  · exact absurd h0 hw
  · exact h0
theorem Spn.narrow {P : Q → Prop} {e w : Q} {B1 B2 B' : List Q} (h : Spn P (B1 ++ w :: B2)) (hw : dot4 e w ≠ 0) (hn : NrL e w (B1 ++ B2) B') : Spn (fun q => P q ∧ dot4 e q = 0) B' := fun q hq => by
  obtain ⟨m, cs, hm, hl, hs⟩ := h q hq.1
  obtain ⟨c1, c, c2, rfl, h1, h2⟩ := split_at (n := B1.length) (m := B2.length) cs (by rw [hl]; simp)
  obtain ⟨cs', hc, hj⟩ := hn.forth (c1 ++ c2) (by simp; omega)
  refine ⟨dot4 e w * m, cs', ?_, hc, fun k hk => ?_⟩
  · intro h0
    rcases Int.mul_eq_zero.1 h0 with h0 | h0
    · exact hw h0
    · exact hm h0
  have hd : smf (dot4 e) (c1 ++ c2) (B1 ++ B2) + c * dot4 e w = 0 := by
    rw [← smf_mid _ _ _ _ _ _ _ h1, smf_dot, ← hs 0 (by decide), ← hs 1 (by decide), ← hs 2 (by decide), ← hs 3 (by decide)]
    have := hq.2
    rw [dot4_cmp] at this
    grind
  have hk2 := hs k hk
  rw [smf_mid _ _ _ _ _ _ _ h1] at hk2
  rw [hj k hk]
  generalize smf (dot4 e) (c1 ++ c2) (B1 ++ B2) = s at *
  generalize smf (cmp k) (c1 ++ c2) (B1 ++ B2) = v at *
  have : s = - (c * dot4 e w) := by omega
  rw [this]
  have e3 : dot4 e w * m * cmp k q = dot4 e w * (m * cmp k q) := by grind
  rw [e3, hk2]
  grind
theorem dot4_Nr {e f w q q' : Q} (h : Nr e w q q') (hq : dot4 f q = 0) (hw : dot4 f w = 0) : dot4 f q' = 0 := by
  obtain ⟨k, hk, hj⟩ := h
  have h0 := hj 0 (by decide)
  have h1 := hj 1 (by decide)
  have h2 := hj 2 (by decide)
  have h3 := hj 3 (by decide)
  have : k * dot4 f q' = 0 := by
    rw [dot4_cmp] at hq hw ⊢
    have e1 : k * (f.a * cmp 0 q' + f.b * cmp 1 q' + f.c * cmp 2 q' + f.d * cmp 3 q') = f.a * (k * cmp 0 q') + f.b * (k * cmp 1 q') + f.c * (k * cmp 2 q') + f.d * (k * cmp 3 q') := by grind
    rw [e1, ← h0, ← h1, ← h2, ← h3]
    have e2 : f.a * (dot4 e w * cmp 0 q - dot4 e q * cmp 0 w) + f.b * (dot4 e w * cmp 1 q - dot4 e q * cmp 1 w) + f.c * (dot4 e w * cmp 2 q - dot4 e q * cmp 2 w) + f.d * (dot4 e w * cmp 3 q - dot4 e q * cmp 3 w) = dot4 e w * (f.a * cmp 0 q + f.b * cmp 1 q + f.c * cmp 2 q + f.d * cmp 3 q) - dot4 e q * (f.a * cmp 0 w + f.b * cmp 1 w + f.c * cmp 2 w + f.d * cmp 3 w) := by grind
    rw [e2, hq, hw]
    simp
  rcases Int.mul_eq_zero.1 this with h | h
  · exact absurd h hk
  · exact h
theorem dot4_Nr_self {e w q q' : Q} (h : Nr e w q q') : dot4 e q' = 0 := by
  obtain ⟨k, hk, hj⟩ := h
  have h0 := hj 0 (by decide)
  have h1 := hj 1 (by decide)
  have h2 := hj 2 (by decide)
  have h3 := hj 3 (by decide)
  have hd := dot4_cmp e q'
  have hq := dot4_cmp e q
  have hw := dot4_cmp e w
  have : k * dot4 e q' = 0 := by
    have e1 : k * (e.a * cmp 0 q' + e.b * cmp 1 q' + e.c * cmp 2 q' + e.d * cmp 3 q') = e.a * (k * cmp 0 q') + e.b * (k * cmp 1 q') + e.c * (k * cmp 2 q') + e.d * (k * cmp 3 q') := by grind
    rw [hd, e1, ← h0, ← h1, ← h2, ← h3]
    generalize dot4 e w = D at *
    generalize dot4 e q = d at *
    have e2 : e.a * (D * cmp 0 q - d * cmp 0 w) + e.b * (D * cmp 1 q - d * cmp 1 w) + e.c * (D * cmp 2 q - d * cmp 2 w) + e.d * (D * cmp 3 q - d * cmp 3 w) = D * (e.a * cmp 0 q + e.b * cmp 1 q + e.c * cmp 2 q + e.d * cmp 3 q) - d * (e.a * cmp 0 w + e.b * cmp 1 w + e.c * cmp 2 w + e.d * cmp 3 w) := by grind
    rw [e2, ← hq, ← hw]
    grind
  rcases Int.mul_eq_zero.1 this with h | h
  · exact absurd h hk
  · exact h
theorem NrL.sol {e w : Q} {l l' : List Q} (h : NrL e w l l') : (∀ q ∈ l', dot4 e q = 0) ∧ ∀ f : Q, dot4 f w = 0 → (∀ q ∈ l, dot4 f q = 0) → ∀ q ∈ l', dot4 f q = 0 := by
  induction h with
  | nil => exact ⟨fun q h => by simp at h, fun _ _ _ q h => by simp at h⟩
  | @cons q q' l l' hq _ ih =>
    refine ⟨fun x hx => ?_, fun f hw hf x hx => ?_⟩
    · rcases List.mem_cons.1 hx with rfl | hx
      · exact dot4_Nr_self hq
      · exact ih.1 x hx
    · rcases List.mem_cons.1 hx with rfl | hx
      · exact dot4_Nr hq (hf q List.mem_cons_self) hw
      · exact ih.2 f hw (fun y hy => hf y (List.mem_cons_of_mem _ hy)) x hx
/-- what is taken away is not all -/
theorem Ind.sum_ne {e w q : Q} {B1 B2 : List Q} (h : Ind (B1 ++ w :: B2)) (hw : dot4 e w ≠ 0) (hq : q ∈ B1 ++ B2) : ¬ ∀ j, j < 4 → dot4 e w * cmp j q - dot4 e q * cmp j w = 0 := fun h0 => by
  obtain ⟨l1, l2, hl⟩ := List.append_of_mem hq
  obtain ⟨cs, hcs, hd⟩ : ∃ cs : List Int, cs.length = (B1 ++ B2).length ∧ (∀ f : Q → Int, smf f cs (B1 ++ B2) = dot4 e w * f q) ∧ (dot4 e w ∈ cs) := by
    refine ⟨List.replicate l1.length 0 ++ dot4 e w :: List.replicate l2.length 0, by rw [hl]; simp, fun f => ?_, by simp⟩
    rw [hl, smf_mid _ _ _ _ _ _ _ (by simp)]
    have : ∀ (B : List Q) (cs : List Int), (∀ c ∈ cs, c = 0) → smf f cs B = 0 := by
      intro B
      induction B with
      | nil => intro cs _; exact smf_nil f _
      | cons x B ih => intro cs h; cases cs with
        | nil => rfl
        | cons c cs =>
          have e0 := h c List.mem_cons_self
          subst e0
          simp only [smf, ih cs (fun y hy => h y (List.mem_cons_of_mem _ hy))]; omega
    rw [this _ _ (fun c hc => by
      rcases List.mem_append.1 hc with hc | hc
      · exact (List.mem_replicate.1 hc).2
      · exact (List.mem_replicate.1 hc).2)]
    omega
  have hA := h (cs.take B1.length ++ (-(dot4 e q)) :: cs.drop B1.length) (by simp at hcs ⊢; omega) (fun k hk => by
    rw [smf_mid _ _ _ _ _ _ _ (by simp at hcs ⊢; omega), List.take_append_drop, hd.1]
    have := h0 k hk
    grind)
  refine hw (hA _ ?_)
  have hm := hd.2
  rw [← List.take_append_drop B1.length cs] at hm
  rcases List.mem_append.1 hm with hm | hm
  · exact List.mem_append_left _ hm
  · exact List.mem_append_right _ (List.mem_cons_of_mem _ hm)
/-- the coordinates are a basis of all -/
theorem ind_un : Ind [un 0, un 1, un 2, un 3] := fun cs hl h => by
  match cs, hl with
  | [c0, c1, c2, c3], _ =>
    have h0 := h 0 (by decide)
    have h1 := h 1 (by decide)
    have h2 := h 2 (by decide)
    have h3 := h 3 (by decide)
    simp [smf, cmp, un] at h0 h1 h2 h3
    intro c hc
    simp at hc
    rcases hc with rfl | rfl | rfl | rfl <;> assumption
theorem spn_un : Spn (fun _ => True) [un 0, un 1, un 2, un 3] := fun q _ => by
  refine ⟨1, [q.a, q.b, q.c, q.d], by decide, rfl, fun k hk => ?_⟩
  rcases cases4 hk with rfl | rfl | rfl | rfl <;> simp [smf, cmp, un]
end Go.Proofs.Ytojmagooapjohaa

/- A quaternion of integers divided by what divides all its coordinates, as the program makes it.
Conditions: the bounds written at each theorem. -/
namespace Go.Proofs.Ytojmagooapjohaa
set_option linter.unusedVariables false
set_option linter.unusedSimpArgs false
set_option maxRecDepth 1000000
open Go.RowKit
open Um Tm

theorem ixGq (x : Q) {k : Nat} (hk : k < 4) : ∀ W, (Instr.index 114 (.agg #[.int .i64 x.a, .int .i64 x.b, .int .i64 x.c, .int .i64 x.d]) (.int .i64 (k : Int))).run Try.prog W = .ok (.int .i64 (cmp k x)) W := fun W => by
  rcases cases4 hk with rfl | rfl | rfl | rfl <;> kernel_rfl
theorem B4.cmp {x : Q} {m : Int} (h : B4 x m) {k : Nat} (hk : k < 4) : -m ≤ cmp k x ∧ cmp k x ≤ m := by
  rcases cases4 hk with rfl | rfl | rfl | rfl
  · exact h.a
  · exact h.b
  · exact h.c
  · exact h.d
theorem getD_set (l : List Int) (k j : Nat) (v : Int) (hk : k < l.length) : (l.set k v).getD j 0 = if j = k then v else l.getD j 0 := by
  rw [List.getD_eq_getElem?_getD, List.getD_eq_getElem?_getD, List.getElem?_set]
  by_cases h : j = k
  · subst h
    rw [if_pos rfl, if_pos rfl, if_pos hk]
    rfl
  · rw [if_neg (fun e => h e.symm), if_neg h]
/-- nothing but 1 divides all four numbers -/
def Prm (q : Q) : Prop := ∀ d : Int, (∀ j, j < 4 → d ∣ cmp j q) → d ∣ 1
/-- bounded, and in lowest terms -/
structure BP (q : Q) (m : Int) : Prop where
  b : B4 q m
  p : Prm q
set_option maxHeartbeats 3200000 in
theorem lowest_any (x : Q) (m : Int) (w : World) (hm : 0 ≤ m ∧ m ≤ 34359738368) (hx : B4 x m) (hne : ¬ Z4 x) : Calls Try.prog 136 #[.agg #[.int .i64 x.a, .int .i64 x.b, .int .i64 x.c, .int .i64 x.d]] w fun e w' => (∃ (y : Q) (k : Int), e = .returned (.agg #[.int .i64 y.a, .int .i64 y.b, .int .i64 y.c, .int .i64 y.d]) ∧ k ≠ 0 ∧ (∀ j, j < 4 → cmp j x = k * cmp j y) ∧ BP y m) ∧ Below w.heap.size w w' := by
  have HX := Lib.hid hx
  have HN := Lib.hid hne
  have HM := Lib.hid hm
  have HI := Lib.hid (fun (k : Nat) (hk : k < 4) => ixGq x hk)
  clear hx hne hm
  go_enter Try.func136, Try.ntmps136
  obtain ⟨W0, hW0⟩ : ∃ W0, W0 = (w.alloc (.cells #[.int .i64 x.a, .int .i64 x.b, .int .i64 x.c, .int .i64 x.d] 114)).alloc (.cells #[.int .i64 0, .int .i64 0, .int .i64 0, .int .i64 0] 114) := ⟨_, rfl⟩
  have W0P : IBox W0 w.heap.size [x.a, x.b, x.c, x.d] := by
    rw [hW0]
    exact ⟨fun i v hv => by
      match i, hv with
      | 0, hv => simp at hv; subst hv; simp [go_sem]
      | 1, hv => simp at hv; subst hv; simp [go_sem]
      | 2, hv => simp at hv; subst hv; simp [go_sem]
      | 3, hv => simp at hv; subst hv; simp [go_sem]
      | n + 4, hv => simp at hv, fun j => by simp [go_sem], by simp <;> omega⟩
  have W0R : IBox W0 (w.heap.size + 1) [0, 0, 0, 0] := by
    rw [hW0]
    exact ⟨fun i v hv => by
      match i, hv with
      | 0, hv => simp at hv; subst hv; simp [go_sem]
      | 1, hv => simp at hv; subst hv; simp [go_sem]
      | 2, hv => simp at hv; subst hv; simp [go_sem]
      | 3, hv => simp at hv; subst hv; simp [go_sem]
      | n + 4, hv => simp at hv, fun j => by simp [go_sem], by simp⟩
  have hb0 : Below w.heap.size w W0 := by rw [hW0]; repeat (first | (with_reducible exact Below.refl _ _) | (with_reducible refine Below.setCell ?_ ?_ _) | (with_reducible refine Below.drew ?_) | (with_reducible refine Below.alloc ?_ ?_ _) | omega | (simp <;> omega))
  have P0 := Lib.hid W0P
  have R0 := Lib.hid W0R
  clear W0P W0R
  go_wp2
  rw [← hW0]
  clear hW0
  go_loopw [3, 5, 8] (fun p _ q wr => ∃ (k : Nat) (g : Int), k ≤ 4 ∧ q = .int .i64 k ∧ p = .int .i64 g ∧ Hid (-m ≤ g ∧ g ≤ m) ∧ Hid ((∀ j, j < k → g ∣ cmp j x) ∧ ∀ d : Int, (∀ j, j < k → d ∣ cmp j x) → d ∣ g) ∧ Hid (Below W0.heap.size W0 wr)) (fun _ _ q _ => 4 - (intOf q).toNat)
  case atStart => exact ⟨0, 0, by omega, rfl, rfl, Lib.hid (by have := HM.out; omega), Lib.hid ⟨fun j hj => by omega, fun d _ => Int.dvd_zero d⟩, Lib.hid (Below.refl _ _)⟩
  case round =>
    obtain ⟨k, g0, hk, rfl, rfl, HG, HD, HB⟩ := hrel
    obtain ⟨wo, hwo⟩ : ∃ x, x = wr := ⟨_, rfl⟩
    subst hwo
    by_cases hlt : k < 4
    · have ik : (k : Int) < 4 := by omega
      have ix := HI.out k hlt
      have HC := Lib.hid (HX.out.cmp hlt)
      generalize hn0 : cmp k x = n0 at *
      have HN0 := Lib.hid hn0
      clear hn0
      go_wp2
      go_loopw [3, 5] (fun p q wr => ∃ g n : Int, p = .int .i64 g ∧ q = .int .i64 n ∧ Hid (-m ≤ g ∧ g ≤ m) ∧ Hid (-m ≤ n ∧ n ≤ m) ∧ Hid (∀ d, (d ∣ g ∧ d ∣ n) ↔ (d ∣ g0 ∧ d ∣ n0)) ∧ Hid (Below W0.heap.size W0 wr)) (fun _ q _ => (intOf q).natAbs)
      case atStart => exact ⟨g0, n0, rfl, rfl, HG, HC, Lib.hid (fun d => Iff.rfl), HB⟩
      case round =>
        obtain ⟨g, n, rfl, rfl, HG2, HN2, HD2, HB2⟩ := hrel
        clear HB
        by_cases h0 : n = 0
        · subst h0
          have hd := (HD2.out g).1 ⟨Int.dvd_refl g, Int.dvd_zero g⟩
          have hgd := fun (d : Int) (h1 : d ∣ g0) (h2 : d ∣ n0) => ((HD2.out d).2 ⟨h1, h2⟩).1
          have HD3 : Hid ((∀ j, j < k + 1 → g ∣ cmp j x) ∧ ∀ d : Int, (∀ j, j < k + 1 → d ∣ cmp j x) → d ∣ g) := Lib.hid ⟨fun j hj => by
            by_cases h : j = k
            · subst h; rw [HN0.out]; exact hd.2
            · exact Int.dvd_trans hd.1 (HD.out.1 j (by omega)), fun d hdj => hgd d (HD.out.2 d fun j hj => hdj j (by omega)) (by rw [← HN0.out]; exact hdj k (by omega))⟩
          clear hd hgd
          go_wp2
          exact ⟨⟨k + 1, g, by omega, by go_num, rfl, HG2, HD3, HB2⟩, by simp [intOf]; omega⟩
        · have h0' : (n != 0) = true := by simpa using h0
          have h1' : (n == 0) = false := by simpa using h0
          have ht := tmod_small g n h0
          have hdf := Int.tmod_def g n
          have hg2 := HG2.out
          have hn2 := HN2.out
          have HD4 : Hid (∀ d, (d ∣ n ∧ d ∣ g.tmod n) ↔ (d ∣ g0 ∧ d ∣ n0)) := Lib.hid (fun d => (show (d ∣ n ∧ d ∣ g.tmod n) ↔ (d ∣ g ∧ d ∣ n) from ⟨fun ⟨h1, h2⟩ => ⟨by
            have e : g = g.tmod n + n * g.tdiv n := by omega
            rw [e]
            exact Int.dvd_add h2 (Int.dvd_mul_of_dvd_left h1), h1⟩, fun ⟨h1, h2⟩ => ⟨h2, by
            have e : g.tmod n = g - n * g.tdiv n := by omega
            rw [e]
            exact Int.dvd_sub h1 (Int.dvd_mul_of_dvd_left h2)⟩⟩).trans (HD2.out d))
          have HT : Hid (-m ≤ g.tmod n ∧ g.tmod n ≤ m) := Lib.hid (by omega)
          have HM4 : Hid ((g.tmod n).natAbs < n.natAbs) := Lib.hid ht
          have mm := HM.out
          have ew : IntKind.i64.wrap (g.tmod n) = g.tmod n := IntWalk.i64_in _ (by omega)
          clear ht hdf hg2 hn2 mm
          go_wp2
          go_quiet (fail)
          go_wp2
          exact ⟨⟨n, g.tmod n, rfl, rfl, HN2, HT, HD4, by have hb := HB2.out; exact Lib.hid ⟨hb.os, hb.tape, hb.output, hb.size, hb.block⟩⟩, by have := HM4.out; simpa [intOf] using this⟩
    · obtain rfl : k = 4 := by omega
      have hg0 : g0 ≠ 0 := fun e => by
        subst e
        have h0 := fun j (hj : j < 4) => Int.zero_dvd.1 (HD.out.1 j hj)
        exact HN.out ⟨h0 0 (by decide), h0 1 (by decide), h0 2 (by decide), h0 3 (by decide)⟩
      have hg0' : (g0 == 0) = false := by simpa using hg0
      have P1 := Lib.hid (P0.out.later HB.out)
      have R1 := Lib.hid (R0.out.later HB.out)
      have B1 := Lib.hid (hb0.trans (HB.out.mono hb0.size))
      have ws := hb0.size
      have HGN := Lib.hid hg0
      clear HB P0 R0
      go_wp2
      go_loopw [6, 18] (fun _ q wr => ∃ (k : Nat) (l : List Int), k ≤ 4 ∧ q = .int .i64 k ∧ Hid (l.length = 4) ∧ Hid (∀ j, j < k → cmp j x = g0 * l.getD j 0) ∧ Hid (∀ j, k ≤ j → j < 4 → l.getD j 0 = cmp j x) ∧ Hid (∀ j, j < 4 → -m ≤ l.getD j 0 ∧ l.getD j 0 ≤ m) ∧ Hid (IBox wr w.heap.size l) ∧ Hid (IBox wr (w.heap.size + 1) [0, 0, 0, 0]) ∧ Hid (Below w.heap.size w wr)) (fun _ q _ => 4 - (intOf q).toNat)
      case atStart => exact ⟨0, [x.a, x.b, x.c, x.d], by omega, rfl, Lib.hid rfl, Lib.hid (fun j hj => by omega), Lib.hid (fun j _ hj => by rcases cases4 hj with rfl | rfl | rfl | rfl <;> rfl), Lib.hid (fun j hj => by rcases cases4 hj with rfl | rfl | rfl | rfl; exact HX.out.a; exact HX.out.b; exact HX.out.c; exact HX.out.d), P1, R1, B1⟩
      case round =>
        obtain ⟨k, l, hk, rfl, HL, HA, HE, HBd, HP, HR, HB⟩ := hrel
        clear P1 R1 B1
        by_cases hlt : k < 4
        · have ik : (k : Int) < 4 := by omega
          have hkl : k < l.length := by rw [HL.out]; exact hlt
          have c0 := HP.out.at (i := k) (x := l.getD k 0) (by rw [List.getD_eq_getElem?_getD, List.getElem?_eq_getElem hkl]; rfl)
          have fp := HP.out.free
          have lp := HP.out.lt
          have hv := HE.out k (Nat.le_refl _) hlt
          obtain ⟨y, hy⟩ := HD.out.1 k hlt
          have hq : (l.getD k 0).tdiv g0 = y := by rw [hv, hy]; exact Int.mul_tdiv_cancel_left _ hg0
          have hyb : -m ≤ y ∧ y ≤ m := by
            have h1 := HX.out.cmp hlt
            rw [hy] at h1
            have h2 : y.natAbs ≤ (g0 * y).natAbs := by
              rw [Int.natAbs_mul]
              exact Nat.le_mul_of_pos_left _ (Int.natAbs_pos.2 hg0)
            generalize g0 * y = z at *
            omega
          have mm := HM.out
          have ew : IntKind.i64.wrap ((l.getD k 0).tdiv g0) = y := by rw [hq]; exact IntWalk.i64_in _ (by omega)
          have HP2 := Lib.hid (HP.out.put k hkl y)
          have HR2 := Lib.hid (HR.out.other (b := w.heap.size) (o := k) (v := .int .i64 y) (by omega))
          have HB2 := Lib.hid (HB.out.setCell (p := ⟨w.heap.size, k, none⟩) (Nat.le_refl _) (.int .i64 y))
          have HL2 : Hid ((l.set k y).length = 4) := Lib.hid (by rw [List.length_set]; exact HL.out)
          have HA2 : Hid (∀ j, j < k + 1 → cmp j x = g0 * (l.set k y).getD j 0) := Lib.hid (fun j hj => by
            rw [getD_set _ _ _ _ hkl]
            by_cases h : j = k
            · subst h; rw [if_pos rfl]; exact hy
            · rw [if_neg h]; exact HA.out j (by omega))
          have HE2 : Hid (∀ j, k + 1 ≤ j → j < 4 → (l.set k y).getD j 0 = cmp j x) := Lib.hid (fun j h1 h2 => by
            rw [getD_set _ _ _ _ hkl, if_neg (by omega)]
            exact HE.out j (by omega) h2)
          have HBd2 : Hid (∀ j, j < 4 → -m ≤ (l.set k y).getD j 0 ∧ (l.set k y).getD j 0 ≤ m) := Lib.hid (fun j hj => by
            rw [getD_set _ _ _ _ hkl]
            by_cases h : j = k
            · rw [if_pos h]; exact hyb
            · rw [if_neg h]; exact HBd.out j hj)
          clear hv hy hq hyb mm HP HR HB HL HA HE HBd hkl
          generalize l.getD k 0 = lv at *
          generalize l.set k y = l' at *
          go_wp2
          exact ⟨⟨k + 1, l', by omega, by go_num, HL2, HA2, HE2, HBd2, HP2, HR2, HB2⟩, by simp [intOf]; omega⟩
        · obtain rfl : k = 4 := by omega
          obtain ⟨y0, y1, y2, y3, rfl⟩ : ∃ y0 y1 y2 y3, l = [y0, y1, y2, y3] := by
            match l, HL.out with
            | [a, b, c, d], _ => exact ⟨a, b, c, d, rfl⟩
          have p0 := HP.out.at (i := 0) (x := y0) rfl
          have p1 := HP.out.at (i := 1) (x := y1) rfl
          have p2 := HP.out.at (i := 2) (x := y2) rfl
          have p3 := HP.out.at (i := 3) (x := y3) rfl
          have rf := HR.out.free
          have rl := HR.out.lt
          have r0 := HR.out.at (i := 0) (x := 0) rfl
          have r1 := HR.out.at (i := 1) (x := 0) rfl
          have r2 := HR.out.at (i := 2) (x := 0) rfl
          have r3 := HR.out.at (i := 3) (x := 0) rfl
          have hb := HB.out
          have HBB := Lib.hid ((HB.out.grown (grown_setCells (w.heap.size + 1) [.int .i64 y0, .int .i64 y1, .int .i64 y2, .int .i64 y3] 0 wr) HB.out.size (fun j e => by cases e; omega)))
          have HY : Hid (B4 ⟨y0, y1, y2, y3, 0⟩ m) := Lib.hid ⟨HBd.out 0 (by decide), HBd.out 1 (by decide), HBd.out 2 (by decide), HBd.out 3 (by decide)⟩
          have HZ : Hid (∀ j, j < 4 → cmp j x = g0 * cmp j ⟨y0, y1, y2, y3, 0⟩) := Lib.hid (fun j hj => by
            have := HA.out j hj
            rcases cases4 hj with rfl | rfl | rfl | rfl <;> exact this)
          have HPR : Hid (Prm ⟨y0, y1, y2, y3, 0⟩) := Lib.hid (fun d hd => by
            have h1 : g0 * d ∣ g0 := HD.out.2 (g0 * d) (fun j hj => by
              rw [HZ.out j hj]
              exact Int.mul_dvd_mul_left g0 (hd j hj))
            obtain ⟨z, hz⟩ := h1
            have hg0 : g0 ≠ 0 := HGN.out
            refine ⟨z, ?_⟩
            have h2 : g0 * (d * z) = g0 * 1 := by rw [← Int.mul_assoc, ← hz, Int.mul_one]
            exact (Int.eq_of_mul_eq_mul_left hg0 h2).symm)
          clear hb
          go_wp2
          refine bodyPost_ret (v := .agg #[.int .i64 (⟨y0, y1, y2, y3, 0⟩ : Q).a, .int .i64 (⟨y0, y1, y2, y3, 0⟩ : Q).b, .int .i64 (⟨y0, y1, y2, y3, 0⟩ : Q).c, .int .i64 (⟨y0, y1, y2, y3, 0⟩ : Q).d]) ?_ rfl ⟨⟨⟨y0, y1, y2, y3, 0⟩, g0, rfl, HGN.out, HZ.out, ⟨HY.out, HPR.out⟩⟩, HBB.out⟩
          simp [results, Try.results136, go_sem, r0, r1, r2, r3, rl]
end Go.Proofs.Ytojmagooapjohaa

/- A basis that is narrowed by an equation, as the program makes it.
Conditions: the bounds written at each theorem. -/
namespace Go.Proofs.Ytojmagooapjohaa
set_option linter.unusedVariables false
set_option linter.unusedSimpArgs false
set_option maxRecDepth 1000000
open Go.RowKit
open Um Tm

def q4 (q : Q) : List Int := [q.a, q.b, q.c, q.d]
def flq (B : List Q) : List Int := B.flatMap q4
theorem flq_len (B : List Q) : (flq B).length = B.length * 4 := flat_len q4 4 (fun _ => rfl) B
theorem flq_snoc (B : List Q) (y : Q) : flq (B ++ [y]) = flq B ++ q4 y := by simp [flq]
theorem liesq {w : World} {b off : Nat} {B : List Q} (h : LiesI w b off (flq B)) {i : Nat} {q : Q} (hx : B[i]? = some q) : w.cell? ⟨b, off + i * 4, none⟩ = some (.int .i64 q.a) ∧ w.cell? ⟨b, off + i * 4 + 1, none⟩ = some (.int .i64 q.b) ∧ w.cell? ⟨b, off + i * 4 + 2, none⟩ = some (.int .i64 q.c) ∧ w.cell? ⟨b, off + i * 4 + 3, none⟩ = some (.int .i64 q.d) := by
  have k := flat_get q4 4 (fun _ => rfl) B i q hx
  exact ⟨h _ _ (k 0 (by decide)), h _ _ (k 1 (by decide)), h _ _ (k 2 (by decide)), h _ _ (k 3 (by decide))⟩
theorem IBox.new4G {w : World} {T : TypeId} {x0 x1 x2 x3 : Int} : IBox (w.alloc (.cells #[.int .i64 x0, .int .i64 x1, .int .i64 x2, .int .i64 x3] T)) w.heap.size [x0, x1, x2, x3] := ⟨fun i v hv => by
  match i, hv with
  | 0, hv => simp at hv; subst hv; simp [go_sem]
  | 1, hv => simp at hv; subst hv; simp [go_sem]
  | 2, hv => simp at hv; subst hv; simp [go_sem]
  | 3, hv => simp at hv; subst hv; simp [go_sem]
  | n + 4, hv => simp at hv, fun j => by simp [go_sem], by simp⟩
theorem four_cellsG {w : World} {b : Nat} {vs : List Value} {v0 v1 v2 v3 : Value} (hv : vs = [v0, v1, v2, v3]) (h0 : w.cell? ⟨b, 0, none⟩ = some v0) (h1 : w.cell? ⟨b, 1, none⟩ = some v1) (h2 : w.cell? ⟨b, 2, none⟩ = some v2) (h3 : w.cell? ⟨b, 3, none⟩ = some v3) : ∀ j u, vs[j]? = some u → w.cell? (Addr.add ⟨b, 0, none⟩ j) = some u := fun j u hj => by
  subst hv
  match j, hj with
  | 0, hj => simp at hj; subst hj; simpa [Addr.add] using h0
  | 1, hj => simp at hj; subst hj; simpa [Addr.add] using h1
  | 2, hj => simp at hj; subst hj; simpa [Addr.add] using h2
  | 3, hj => simp at hj; subst hj; simpa [Addr.add] using h3
  | n + 4, hj => simp at hj
theorem four_oneG (l : List Int) : ∀ u ∈ l.map vi, u.oneCell' = true := fun u hu => by obtain ⟨z, -, rfl⟩ := List.mem_map.1 hu; rfl
theorem infoQn : (Try.prog.info? 114).map (fun i => (i.zero, i.size, i.bytes)) = some (some (.agg #[.int .i64 0, .int .i64 0, .int .i64 0, .int .i64 0]), 4, 32) := by kernel_rfl
theorem dot_bnd {e q : Q} {m : Int} (he : B4 e 4) (hq : B4 q m) : -(16 * m) ≤ dot4 e q ∧ dot4 e q ≤ 16 * m := by
  obtain ⟨a1, a2⟩ := mul_le2 (by decide) he.a hq.a
  obtain ⟨b1, b2⟩ := mul_le2 (by decide) he.b hq.b
  obtain ⟨c1, c2⟩ := mul_le2 (by decide) he.c hq.c
  obtain ⟨d1, d2⟩ := mul_le2 (by decide) he.d hq.d
  unfold dot4
  omega
set_option maxHeartbeats 1600000 in
theorem gqAt_big (x y : Q) (w : World) (hx : B4 x 4) (hy : B4 y 34359738368) : Calls Try.prog 46 #[.agg #[.int .i64 x.a, .int .i64 x.b, .int .i64 x.c, .int .i64 x.d], .agg #[.int .i64 y.a, .int .i64 y.b, .int .i64 y.c, .int .i64 y.d]] w fun e w' => e = .returned (.int .i64 (dot4 x y)) ∧ Below w.heap.size w w' := by
  obtain ⟨aa1, aa2⟩ := mul_le2 (by decide) hx.a hy.a
  obtain ⟨bb1, bb2⟩ := mul_le2 (by decide) hx.b hy.b
  obtain ⟨cc1, cc2⟩ := mul_le2 (by decide) hx.c hy.c
  obtain ⟨dd1, dd2⟩ := mul_le2 (by decide) hx.d hy.d
  clear hx hy
  go_enter Try.func46, Try.ntmps46
  go_wp2
  go_ret
  exact ⟨by unfold dot4; rfl, by repeat (first | (with_reducible exact Below.refl _ _) | (with_reducible refine Below.setCell ?_ ?_ _) | (with_reducible refine Below.drew ?_) | (with_reducible refine Below.alloc ?_ ?_ _) | omega | (simp <;> omega))⟩
theorem NrL.snoc {e w q q' : Q} {l l' : List Q} (h : NrL e w l l') (hq : Nr e w q q') : NrL e w (l ++ [q]) (l' ++ [q']) := by
  induction h with
  | nil => exact .cons hq .nil
  | cons h1 _ ih => exact .cons h1 ih
/-- what lies in memory while a basis is narrowed -/
structure Nw (w X : World) (wq e : Q) : Prop where
  e : IBox X w.heap.size (q4 e)
  q : IBox X (w.heap.size + 1) (q4 wq)
  b : Below w.heap.size w X
theorem Nw.later {w X Y : World} {wq e : Q} (h : Nw w X wq e) (hb : Below X.heap.size X Y) : Nw w Y wq e := ⟨h.e.later hb, h.q.later hb, h.b.trans (hb.mono h.b.size)⟩
theorem Nw.put {w X : World} {wq e : Q} (h : Nw w X wq e) {b o : Nat} (v : Value) (hb : w.heap.size + 1 < b) : Nw w (X.setCell ⟨b, o, none⟩ v) wq e := ⟨h.e.other (by omega), h.q.other (by omega), h.b.setCell (p := ⟨b, o, none⟩) (by show w.heap.size ≤ b; omega) v⟩
theorem Nw.grown {w X Y : World} {wq e : Q} {row : Option Nat} (h : Nw w X wq e) (hg : X.grownBy Y row) (hne : ∀ j, row = some j → w.heap.size + 2 ≤ j) : Nw w Y wq e := ⟨h.e.grown hg (fun e => by have := hne _ e.symm; omega), h.q.grown hg (fun e => by have := hne _ e.symm; omega), h.b.grown hg h.b.size (fun j hj => by have := hne j hj; omega)⟩
/-- the vector that is taken, coordinate by coordinate -/
def nrv (e w q : Q) : Q := ⟨dot4 e w * q.a - dot4 e q * w.a, dot4 e w * q.b - dot4 e q * w.b, dot4 e w * q.c - dot4 e q * w.c, dot4 e w * q.d - dot4 e q * w.d, 0⟩
theorem nrv_cmp (e w q : Q) (j : Nat) (hj : j < 4) : cmp j (nrv e w q) = dot4 e w * cmp j q - dot4 e q * cmp j w := by
  rcases cases4 hj with rfl | rfl | rfl | rfl <;> rfl
set_option maxHeartbeats 12800000 in
theorem narrowed_any (B1 B2 : List Q) (wq e : Q) (bo off cap : Nat) (m m' : Int) (w : World) (h : LiesI w bo off (flq (B1 ++ wq :: B2))) (he : B4 e 4) (hB : ∀ q ∈ B1 ++ wq :: B2, B4 q m) (hm : 0 ≤ m ∧ m ≤ 34359738368) (hmm : B1 ++ B2 ≠ [] → 2 * (16 * m * m) ≤ m' ∧ m' ≤ 34359738368) (hi : Ind (B1 ++ wq :: B2)) (hD : dot4 e wq ≠ 0) (hlen : (B1 ++ wq :: B2).length ≤ 4) : Calls Try.prog 108 #[.slice (some ⟨bo, off, none⟩) (B1 ++ wq :: B2).length cap, .int .i64 (B1.length : Int), .agg #[.int .i64 e.a, .int .i64 e.b, .int .i64 e.c, .int .i64 e.d]] w fun e' w' => (∃ (B' : List Q) (v : Value), e' = .returned v ∧ NrL e wq (B1 ++ B2) B' ∧ (∀ q ∈ B', BP q m') ∧ w'.ownsRow (w.heap.size + 2) 114 4 v B'.length ((flq B').map vi)) ∧ Below w.heap.size w w' := by
  obtain ⟨i0, hi0, hz0, hz1, hz2⟩ := info_parts infoQn
  have hBi : (B1 ++ wq :: B2)[B1.length]? = some wq := by simp
  have hBe : (B1 ++ wq :: B2).eraseIdx B1.length = B1 ++ B2 := by simp [List.eraseIdx_append]
  have cK : ∀ (k : Nat) (q : Q), (B1 ++ wq :: B2)[k]? = some q → k ≠ B1.length → Hid (∀ W : World, Calls Try.prog 46 #[.agg #[.int .i64 e.a, .int .i64 e.b, .int .i64 e.c, .int .i64 e.d], .agg #[.int .i64 q.a, .int .i64 q.b, .int .i64 q.c, .int .i64 q.d]] W fun e' w' => e' = .returned (.int .i64 (dot4 e q)) ∧ Below W.heap.size W w') ∧ Hid (∀ W : World, Calls Try.prog 136 #[.agg #[.int .i64 (nrv e wq q).a, .int .i64 (nrv e wq q).b, .int .i64 (nrv e wq q).c, .int .i64 (nrv e wq q).d]] W fun e' w' => (∃ (y : Q) (k : Int), e' = .returned (.agg #[.int .i64 y.a, .int .i64 y.b, .int .i64 y.c, .int .i64 y.d]) ∧ k ≠ 0 ∧ (∀ j, j < 4 → cmp j (nrv e wq q) = k * cmp j y) ∧ BP y m') ∧ Below W.heap.size W w') ∧ Hid (∀ n, n < 4 → IntKind.i64.wrap (dot4 e wq * cmp n q) = dot4 e wq * cmp n q ∧ IntKind.i64.wrap (dot4 e q * cmp n wq) = dot4 e q * cmp n wq ∧ IntKind.i64.wrap (dot4 e wq * cmp n q - dot4 e q * cmp n wq) = dot4 e wq * cmp n q - dot4 e q * cmp n wq) := fun k q hk hne => by
    have hq := hB q (List.mem_of_getElem? hk)
    have hw := hB wq (List.mem_of_getElem? hBi)
    have hmem : q ∈ B1 ++ B2 := by
      rw [← hBe]
      exact List.mem_eraseIdx_iff_getElem?.2 ⟨k, hne, hk⟩
    have hnn : B1 ++ B2 ≠ [] := fun h0 => by rw [h0] at hmem; simp at hmem
    obtain ⟨mm1, mm2⟩ := hmm hnn
    have dw := dot_bnd he hw
    have dq := dot_bnd he hq
    have hb : ∀ n, n < 4 → (-(16 * m * m) ≤ dot4 e wq * cmp n q ∧ dot4 e wq * cmp n q ≤ 16 * m * m) ∧ (-(16 * m * m) ≤ dot4 e q * cmp n wq ∧ dot4 e q * cmp n wq ≤ 16 * m * m) := fun n hn => ⟨mul_le2 (by omega) dw (hq.cmp hn), mul_le2 (by omega) dq (hw.cmp hn)⟩
    have hnz : ¬ Z4 (nrv e wq q) := fun hz => hi.sum_ne hD hmem (fun j hj => by
      rw [← nrv_cmp e wq q j hj]
      rcases cases4 hj with rfl | rfl | rfl | rfl
      · exact hz.1
      · exact hz.2.1
      · exact hz.2.2.1
      · exact hz.2.2.2)
    have hv : B4 (nrv e wq q) m' := by
      have k0 := hb 0 (by decide)
      have k1 := hb 1 (by decide)
      have k2 := hb 2 (by decide)
      have k3 := hb 3 (by decide)
      simp only [cmp] at k0 k1 k2 k3
      simp at k0 k1 k2 k3
      generalize 16 * m * m = u at *
      exact ⟨by simp only [nrv]; omega, by simp only [nrv]; omega, by simp only [nrv]; omega, by simp only [nrv]; omega⟩
    have m0 : 0 ≤ 16 * m * m := Int.mul_nonneg (by omega) hm.1
    refine ⟨Lib.hid (fun W => gqAt_big e q W he ⟨by have := hq.a; omega, by have := hq.b; omega, by have := hq.c; omega, by have := hq.d; omega⟩), Lib.hid (fun W => lowest_any _ m' W ⟨by omega, mm2⟩ hv hnz), Lib.hid (fun n hn => ?_)⟩
    have k0 := hb n hn
    generalize 16 * m * m = u at *
    exact ⟨IntWalk.i64_in _ (by omega), IntWalk.i64_in _ (by omega), IntWalk.i64_in _ (by omega)⟩
  have hwm := hB wq (List.mem_of_getElem? hBi)
  have dA : ∀ W : World, Calls Try.prog 46 #[.agg #[.int .i64 e.a, .int .i64 e.b, .int .i64 e.c, .int .i64 e.d], .agg #[.int .i64 wq.a, .int .i64 wq.b, .int .i64 wq.c, .int .i64 wq.d]] W fun e' w' => e' = .returned (.int .i64 (dot4 e wq)) ∧ Below W.heap.size W w' := fun W => gqAt_big e wq W he ⟨by have := hwm.a; omega, by have := hwm.b; omega, by have := hwm.c; omega, by have := hwm.d; omega⟩
  have H := Lib.hid h
  have HK := Lib.hid cK
  have HBe := Lib.hid hBe
  have HBi := Lib.hid hBi
  have HBL := Lib.hid (show B1.length < (B1 ++ wq :: B2).length by simp)
  have HL4 := Lib.hid hlen
  have HDA := Lib.hid dA
  clear h he hB hm hmm hi hD cK hBe hBi hwm dA hlen
  generalize hBB : B1 ++ wq :: B2 = B at *
  generalize hBC : B1 ++ B2 = C at *
  clear hBB hBC
  generalize B1.length = i at *
  go_enter Try.func108, Try.ntmps108
  obtain ⟨l0, l1, l2, l3⟩ := liesq H.out HBi.out
  have lb := World.block_lt_of_cell? _ _ l0
  have ii : (i : Int) < (B.length : Int) := by have := HBL.out; omega
  go_wp2
  have NW0 : Nw w ((w.alloc (.cells #[.int .i64 e.a, .int .i64 e.b, .int .i64 e.c, .int .i64 e.d] 89)).alloc (.cells #[.int .i64 wq.a, .int .i64 wq.b, .int .i64 wq.c, .int .i64 wq.d] 114)) wq e := ⟨IBox.new4G.later ba1, by
    have := IBox.new4G (w := w.alloc (.cells #[.int .i64 e.a, .int .i64 e.b, .int .i64 e.c, .int .i64 e.d] 89)) (T := 114) (x0 := wq.a) (x1 := wq.b) (x2 := wq.c) (x3 := wq.d)
    simp at this
    exact this, ba2⟩
  have HN0 := Lib.hid NW0
  clear NW0 l0 l1 l2 l3
  generalize (w.alloc (.cells #[.int .i64 e.a, .int .i64 e.b, .int .i64 e.c, .int .i64 e.d] 89)).alloc (.cells #[.int .i64 wq.a, .int .i64 wq.b, .int .i64 wq.c, .int .i64 wq.d] 114) = W0 at *
  go_loopw [8, 9, 10, 11, 12, 19, 28] (fun v _ _ _ _ q _ wr => ∃ (k : Nat) (B' : List Q), k ≤ B.length ∧ q = .int .i64 k ∧ Hid (NrL e wq ((B.take k).eraseIdx i) B') ∧ Hid (∀ q ∈ B', BP q m') ∧ Hid (wr.ownsRow (w.heap.size + 2) 114 4 v B'.length ((flq B').map vi)) ∧ Hid (Nw w wr wq e)) (fun _ _ _ _ _ q _ _ => B.length - (intOf q).toNat)
  case atStart => exact ⟨0, [], by omega, rfl, Lib.hid (by simp; exact .nil), Lib.hid (fun q hq => by simp at hq), Lib.hid (World.ownsRow_nil _ _ _ _), HN0⟩
  case round =>
    obtain ⟨k, B', hk, rfl, HR, HM, HO, HN⟩ := hrel
    clear HN0
    obtain ⟨ro, rc, rfl⟩ := owned_formG HO.out
    by_cases hlt : k < B.length
    · have hx := List.getElem?_eq_getElem hlt
      have hT : (B.take (k + 1)).eraseIdx i = if k = i then (B.take k).eraseIdx i else (B.take k).eraseIdx i ++ [B[k]] := by
        rw [List.take_succ_eq_append_getElem hlt]
        have htl : (B.take k).length = k := by rw [List.length_take]; omega
        by_cases hki : k = i
        · subst hki
          rw [if_pos rfl, List.eraseIdx_append_of_length_le (by omega), htl, Nat.sub_self, List.eraseIdx_of_length_le (l := B.take k) (by omega)]
          simp
        · rw [if_neg hki]
          by_cases hlt2 : k < i
          · rw [List.eraseIdx_of_length_le (by simp; omega), List.eraseIdx_of_length_le (by simp; omega)]
          · rw [List.eraseIdx_append_of_lt_length (by simp; omega)]
      have HT := Lib.hid hT
      have hb := HN.out.b
      obtain ⟨l0, l1, l2, l3⟩ := liesq (H.out.later hb) hx
      have ik : (k : Int) < (B.length : Int) := by omega
      have lb1 := World.block_lt_of_cell? _ _ l0
      clear hT
      by_cases hki : k = i
      · subst hki
        have HT2 : Hid (NrL e wq ((B.take (k + 1)).eraseIdx k) B') := Lib.hid (by rw [HT.out, if_pos rfl]; exact HR.out)
        generalize hqq : B[k] = q at *
        clear hqq hx HT
        have HN1 := Lib.hid (HN.out.later (ba1 (o := .cells #[.int .i64 q.a, .int .i64 q.b, .int .i64 q.c, .int .i64 q.d] 114)))
        have HO1 := Lib.hid (owned_later HO.out (ba1 (o := .cells #[.int .i64 q.a, .int .i64 q.b, .int .i64 q.c, .int .i64 q.d] 114)))
        have h4 := HL4.out
        clear HN HO hb
        go_wp2
        exact ⟨⟨k + 1, B', by omega, by go_num, HT2, HM, HO1, HN1⟩, by simp [intOf]; omega⟩
      · have hki' : ((k : Int) == (i : Int)) = false := by simpa using (by omega : ¬ (k : Int) = (i : Int))
        obtain ⟨dB, cL, cW⟩ := HK.out k _ hx hki
        have HT2 : Hid ((B.take (k + 1)).eraseIdx i = (B.take k).eraseIdx i ++ [B[k]]) := Lib.hid (by rw [HT.out, if_neg hki])
        generalize hqq : B[k] = q at *
        clear hqq hx HT hki
        go_wp2
        have X0 : IBox ((wr.alloc (.cells #[.int .i64 q.a, .int .i64 q.b, .int .i64 q.c, .int .i64 q.d] 114)).alloc (.cells #[.int .i64 0, .int .i64 0, .int .i64 0, .int .i64 0] 114)) wr.heap.size [q.a, q.b, q.c, q.d] := IBox.new4G.later ba1
        have S0 : IBox ((wr.alloc (.cells #[.int .i64 q.a, .int .i64 q.b, .int .i64 q.c, .int .i64 q.d] 114)).alloc (.cells #[.int .i64 0, .int .i64 0, .int .i64 0, .int .i64 0] 114)) (wr.heap.size + 1) [0, 0, 0, 0] := by
          have := IBox.new4G (w := wr.alloc (.cells #[.int .i64 q.a, .int .i64 q.b, .int .i64 q.c, .int .i64 q.d] 114)) (T := 114) (x0 := 0) (x1 := 0) (x2 := 0) (x3 := 0)
          simpa using this
        have N0 := HN.out.later (ba2 (o := .cells #[.int .i64 q.a, .int .i64 q.b, .int .i64 q.c, .int .i64 q.d] 114) (p := .cells #[.int .i64 0, .int .i64 0, .int .i64 0, .int .i64 0] 114))
        have O0 := owned_later HO.out (ba2 (o := .cells #[.int .i64 q.a, .int .i64 q.b, .int .i64 q.c, .int .i64 q.d] 114) (p := .cells #[.int .i64 0, .int .i64 0, .int .i64 0, .int .i64 0] 114))
        have HX0 := Lib.hid X0
        have HS0 := Lib.hid S0
        have HN0 := Lib.hid N0
        have HO0 := Lib.hid O0
        have BY0 : Below wr.heap.size wr ((wr.alloc (.cells #[.int .i64 q.a, .int .i64 q.b, .int .i64 q.c, .int .i64 q.d] 114)).alloc (.cells #[.int .i64 0, .int .i64 0, .int .i64 0, .int .i64 0] 114)) := ba2
        have pw : w.heap.size + 1 < wr.heap.size := HN.out.q.lt
        have HOW := Lib.hid HO.out
        have HY0 := Lib.hid BY0
        clear X0 S0 N0 O0 BY0 HN HO HO0 l0 l1 l2 l3 hb lb1
        generalize (wr.alloc (.cells #[.int .i64 q.a, .int .i64 q.b, .int .i64 q.c, .int .i64 q.d] 114)).alloc (.cells #[.int .i64 0, .int .i64 0, .int .i64 0, .int .i64 0] 114) = X0 at *
        obtain ⟨wo, hwo⟩ : ∃ x, x = wr := ⟨_, rfl⟩
        subst hwo
        go_loopw [12, 28] (fun _ q' wr => ∃ (n : Nat) (l : List Int), n ≤ 4 ∧ q' = .int .i64 n ∧ Hid (l.length = 4) ∧ Hid (∀ j, j < n → l.getD j 0 = cmp j (nrv e wq q)) ∧ Hid (IBox wr (wo.heap.size + 1) l) ∧ Hid (IBox wr wo.heap.size [q.a, q.b, q.c, q.d]) ∧ Hid (Nw w wr wq e) ∧ Hid (Below wo.heap.size wo wr)) (fun _ q' _ => 4 - (intOf q').toNat)
        case atStart => exact ⟨0, [0, 0, 0, 0], by omega, rfl, Lib.hid rfl, Lib.hid (fun j hj => by omega), HS0, HX0, HN0, HY0⟩
        case round =>
          obtain ⟨n, l, hn, rfl, HLl, HLv, HS, HX, HN, HY⟩ := hrel
          clear HS0 HX0 HN0 HY0
          by_cases hn4 : n < 4
          · have hnl : n < l.length := by rw [HLl.out]; exact hn4
            obtain ⟨p0, hp0⟩ : ∃ z, z = dot4 e wq * cmp n q := ⟨_, rfl⟩
            obtain ⟨r0, hr0⟩ : ∃ z, z = dot4 e q * cmp n wq := ⟨_, rfl⟩
            obtain ⟨v0, hv0⟩ : ∃ z, z = p0 - r0 := ⟨_, rfl⟩
            have HV0 : Hid (v0 = cmp n (nrv e wq q)) := Lib.hid (by rw [hv0, hp0, hr0, nrv_cmp _ _ _ _ hn4])
            have e0 : IntKind.i64.wrap (dot4 e wq * cmp n q) = p0 := (cW.out n hn4).1.trans hp0.symm
            have f0 : IntKind.i64.wrap (dot4 e q * cmp n wq) = r0 := (cW.out n hn4).2.1.trans hr0.symm
            have g0 : IntKind.i64.wrap (p0 - r0) = v0 := by rw [hv0, hp0, hr0]; exact (cW.out n hn4).2.2
            have ea := HN.out.e.at (i := 0) (x := e.a) rfl
            have eb := HN.out.e.at (i := 1) (x := e.b) rfl
            have ec := HN.out.e.at (i := 2) (x := e.c) rfl
            have ed := HN.out.e.at (i := 3) (x := e.d) rfl
            have wa := HN.out.q.at (i := 0) (x := wq.a) rfl
            have wb := HN.out.q.at (i := 1) (x := wq.b) rfl
            have wc := HN.out.q.at (i := 2) (x := wq.c) rfl
            have wd := HN.out.q.at (i := 3) (x := wq.d) rfl
            have wn := HN.out.q.at (i := n) (x := cmp n wq) (by rcases cases4 hn4 with rfl | rfl | rfl | rfl <;> rfl)
            have xa := HX.out.at (i := 0) (x := q.a) rfl
            have xb := HX.out.at (i := 1) (x := q.b) rfl
            have xc := HX.out.at (i := 2) (x := q.c) rfl
            have xd := HX.out.at (i := 3) (x := q.d) rfl
            have xn := HX.out.at (i := n) (x := cmp n q) (by rcases cases4 hn4 with rfl | rfl | rfl | rfl <;> rfl)
            have la := HN.out.e.lt
            have lq := HN.out.q.lt
            have lx := HX.out.lt
            have ls := HS.out.lt
            have DA := HDA.out
            have DB := dB.out
            have in4 : (n : Int) < 4 := by omega
            clear hp0 hr0 hv0
            generalize cmp n q = qn at *
            generalize cmp n wq = wn' at *
            go_wp2
            refine Tail.region_tail_below 17 (by kernel_rfl) (by kernel_rfl) ?_
            simp only [List.take_succ_cons, List.take_zero, List.drop_succ_cons, List.drop_zero]
            have kc := @Tail.cell_re
            repeat (go_big_quiet_step (first | (with_reducible exact Calls.regrown_of (DA _)) | (with_reducible exact Calls.regrown_of (DB _))))
            refine wpQuiet_nil ?_
            intro y0 hy0
            have SS := Lib.hid (HS.out.later hy0)
            have XX := Lib.hid (HX.out.later hy0)
            have NN := Lib.hid (HN.out.later hy0)
            have YY := Lib.hid (HY.out.trans (hy0.mono HY.out.size))
            clear ea eb ec ed wa wb wc wd wn xa xb xc xd xn la lq lx ls DA DB kc hy0 HS HX HN HY e0 f0 g0
            have cS := SS.out.at (i := n) (x := l.getD n 0) (by rw [List.getD_eq_getElem?_getD, List.getElem?_eq_getElem hnl]; rfl)
            have fS := SS.out.free
            have lS := SS.out.lt
            have HS1 := Lib.hid (SS.out.put n hnl v0)
            have HX1 := Lib.hid (XX.out.other (b := wo.heap.size + 1) (o := n) (v := .int .i64 v0) (by omega))
            have HN1 := Lib.hid (NN.out.put (b := wo.heap.size + 1) (o := n) (.int .i64 v0) (by omega))
            have HY1 := Lib.hid (YY.out.setCell (p := ⟨wo.heap.size + 1, n, none⟩) (by show wo.heap.size ≤ wo.heap.size + 1; omega) (.int .i64 v0))
            have HLl1 : Hid ((l.set n v0).length = 4) := Lib.hid (by rw [List.length_set]; exact HLl.out)
            have HLv1 : Hid (∀ j, j < n + 1 → (l.set n v0).getD j 0 = cmp j (nrv e wq q)) := Lib.hid (fun j hj => by
              rw [getD_set _ _ _ _ hnl]
              by_cases h : j = n
              · rw [if_pos h, h]; exact HV0.out
              · rw [if_neg h]; exact HLv.out j (by omega))
            clear SS XX NN YY HLl HLv HV0 hnl
            generalize l.getD n 0 = lv at *
            generalize l.set n v0 = l' at *
            go_wp2
            exact ⟨⟨n + 1, l', by omega, by go_num, HLl1, HLv1, HS1, HX1, HN1, HY1⟩, by simp [intOf]; omega⟩
          · obtain rfl : n = 4 := by omega
            obtain ⟨v0, v1, v2, v3, rfl⟩ : ∃ v0 v1 v2 v3, l = [v0, v1, v2, v3] := by
              match l, HLl.out with
              | [a, b, c, d], _ => exact ⟨a, b, c, d, rfl⟩
            have hvv : nrv e wq q = ⟨v0, v1, v2, v3, 0⟩ := by
              have k0 := HLv.out 0 (by decide)
              have k1 := HLv.out 1 (by decide)
              have k2 := HLv.out 2 (by decide)
              have k3 := HLv.out 3 (by decide)
              change v0 = (nrv e wq q).a at k0
              change v1 = (nrv e wq q).b at k1
              change v2 = (nrv e wq q).c at k2
              change v3 = (nrv e wq q).d at k3
              rw [k0, k1, k2, k3]
              rfl
            have HS4 := HS
            have HX4 := HX
            have HN4 := HN
            have HY4 := HY
            clear HLl HLv HS HX HN HY
            have sa := HS4.out.at (i := 0) (x := v0) rfl
            have sb := HS4.out.at (i := 1) (x := v1) rfl
            have sc := HS4.out.at (i := 2) (x := v2) rfl
            have sd := HS4.out.at (i := 3) (x := v3) rfl
            have cL2 := cL.out
            rw [hvv] at cL2
            have HVV := Lib.hid hvv
            clear hvv cL dB cW
            go_wp2_with (fail)
            refine (cL2 _).mono ?_
            rintro e' w5 ⟨⟨y, kk, rfl, hk0, hyj, hyb⟩, hw5⟩
            have HN5 := Lib.hid (HN4.out.later hw5)
            have HY5 := Lib.hid (HY4.out.trans (hw5.mono HY4.out.size))
            have HO5 := Lib.hid (owned_later HOW.out HY5.out)
            have HNR : Hid (Nr e wq q y) := Lib.hid ⟨kk, hk0, fun j hj => by
              rw [← nrv_cmp e wq q j hj, HVV.out]
              exact hyj j hj⟩
            have HM5 : Hid (∀ q ∈ B' ++ [y], BP q m') := Lib.hid (fun x hx => by
              rcases List.mem_append.1 hx with hx | hx
              · exact HM.out x hx
              · rw [List.mem_singleton.1 hx]; exact hyb)
            have hbs := HN5.out.b.size
            have hq5 := HN5.out.q.lt
            have h4 := HL4.out
            have hB4 : B'.length ≤ 4 := by
              have h1 := HR.out.len
              have h2 : ((B.take k).eraseIdx i).length ≤ (B.take k).length := by rw [List.length_eraseIdx]; split <;> omega
              have h3 : (B.take k).length ≤ k := by simp; omega
              omega
            clear sa sb sc sd hw5 HN4 HY4 HS4 HX4 HOW hk0 hyj hyb cL2 HVV
            go_wp2_with (at_builtin; refine wpList_append_own _ rfl (.tmp 49) (.tmp 52) 112 rfl (w.heap.size + 2) 114 i0 _ 4 32 Try.underlying112 hi0 hz0 hz1 hz2 rfl (by decide) (.slice ro B'.length rc) B'.length ((flq B').map vi) rfl (HO5.out.alloc _) ⟨w5.heap.size, 0, none⟩ 1 1 [.int .i64 y.a, .int .i64 y.b, .int .i64 y.c, .int .i64 y.d] rfl rfl (four_cellsG rfl (by simp [go_sem]) (by simp [go_sem]) (by simp [go_sem]) (by simp [go_sem])) (four_oneG (q4 y)) (by unfold maxLen; omega) (by omega) (by simp; omega) ?_; intro v6 w6 hown6 hgrow6 _)
            have HN6 := Lib.hid ((HN5.out.later ((ba1 (o := .cells #[.int .i64 y.a, .int .i64 y.b, .int .i64 y.c, .int .i64 y.d] 114)))).grown hgrow6 (fun j hj => owned_from HO5.out j hj))
            have HO6 : Hid (w6.ownsRow (w.heap.size + 2) 114 4 v6 (B' ++ [y]).length ((flq (B' ++ [y])).map vi)) := Lib.hid (by rw [flq_snoc, List.map_append, List.length_append]; exact hown6)
            have HR6 : Hid (NrL e wq ((B.take (k + 1)).eraseIdx i) (B' ++ [y])) := Lib.hid (by rw [HT2.out]; exact HR.out.snoc HNR.out)
            clear hown6 hgrow6
            exact ⟨⟨k + 1, B' ++ [y], by omega, by go_num, HR6, HM5, HO6, HN6⟩, by simp [intOf]; omega⟩
    · obtain rfl : k = B.length := by omega
      have hr := HR.out
      rw [List.take_length, HBe.out] at hr
      have HR2 := Lib.hid hr
      clear hr HR
      go_wp2
      go_ret
      exact ⟨⟨B', _, rfl, HR2.out, HM.out, HO.out⟩, HN.out.b⟩
end Go.Proofs.Ytojmagooapjohaa

/- A basis of the solutions of equations: what each step keeps.
Conditions: the bounds written at each theorem. -/
namespace Go.Proofs.Ytojmagooapjohaa
set_option linter.unusedVariables false
set_option linter.unusedSimpArgs false
set_option maxRecDepth 1000000
open Go.RowKit
open Um Tm

/-- how great the numbers of a basis of so many quaternions are -/
def bd (n : Nat) : Int := if n = 4 then 1 else if n = 3 then 32 else if n = 2 then 32768 else 34359738368
theorem bd_rng (n : Nat) : 0 ≤ bd n ∧ bd n ≤ 34359738368 := by
  unfold bd
  split
  · decide
  · split
    · decide
    · split
      · decide
      · decide
/-- a basis of the quaternions that solve the first k equations -/
structure Bas (E : Nat → Q) (k : Nat) (B : List Q) : Prop where
  i : Ind B
  z : ∀ j, j < k → ∀ q ∈ B, dot4 (E j) q = 0
  s : Spn (fun q => ∀ j, j < k → dot4 (E j) q = 0) B
  l : B.length ≤ 4
  b : ∀ q ∈ B, B4 q (bd B.length)
  p : ∀ q ∈ B, Prm q
theorem Bas.start (E : Nat → Q) : Bas E 0 [un 0, un 1, un 2, un 3] := ⟨ind_un, fun j hj => by omega, fun q _ => spn_un q trivial, by decide, fun q hq => by
  simp at hq
  rcases hq with rfl | rfl | rfl | rfl <;> exact un_bnd, fun q hq d hd => by
  simp at hq
  rcases hq with rfl | rfl | rfl | rfl
  · exact hd 0 (by decide)
  · exact hd 1 (by decide)
  · exact hd 2 (by decide)
  · exact hd 3 (by decide)⟩
theorem Bas.keep {E : Nat → Q} {k : Nat} {B : List Q} (h : Bas E k B) (h0 : ∀ q ∈ B, dot4 (E k) q = 0) : Bas E (k + 1) B := ⟨h.i, fun j hj q hq => by
  by_cases hjk : j = k
  · subst hjk; exact h0 q hq
  · exact h.z j (by omega) q hq, fun q hq => h.s q (fun j hj => hq j (by omega)), h.l, h.b, h.p⟩
theorem split_get (B : List Q) {j : Nat} (hj : j < B.length) : B = B.take j ++ B[j] :: B.drop (j + 1) := by
  rw [← List.drop_eq_getElem_cons hj, List.take_append_drop]
theorem Bas.next {E : Nat → Q} {k j : Nat} {B B' : List Q} (h : Bas E k B) (hj : j < B.length) (hd : dot4 (E k) B[j] ≠ 0) (hn : NrL (E k) B[j] (B.take j ++ B.drop (j + 1)) B') (hb : ∀ q ∈ B', BP q (bd (B.length - 1))) : Bas E (k + 1) B' := by
  have hs := split_get B hj
  have hl : B'.length = B.length - 1 := by rw [hn.len]; simp; omega
  have hi := h.i
  have hsp := h.s
  rw [hs] at hi hsp
  refine ⟨hi.narrow hd hn, fun i hi2 q hq => ?_, fun q hq => hsp.narrow hd hn q ⟨fun i hi2 => hq i (by omega), hq k (by omega)⟩, by have := h.l; omega, fun q hq => by rw [hl]; exact (hb q hq).b, fun q hq => (hb q hq).p⟩
  by_cases hik : i = k
  · subst hik; exact hn.sol.1 q hq
  · have hz := h.z i (by omega)
    refine hn.sol.2 (E i) (hz _ (List.getElem_mem hj)) (fun x hx => hz x ?_) q hq
    rcases List.mem_append.1 hx with hx | hx
    · exact List.mem_of_mem_take hx
    · exact List.mem_of_mem_drop hx
theorem row_cells {w : World} {eb eoff n : Nat} {l : List Int} (h : LiesI w eb eoff l) (hl : l.length = n * 4) {j : Nat} (hj : j < n) : w.cell? ⟨eb, eoff + j * 4, none⟩ = some (.int .i64 (rowQ l j).a) ∧ w.cell? ⟨eb, eoff + j * 4 + 1, none⟩ = some (.int .i64 (rowQ l j).b) ∧ w.cell? ⟨eb, eoff + j * 4 + 2, none⟩ = some (.int .i64 (rowQ l j).c) ∧ w.cell? ⟨eb, eoff + j * 4 + 3, none⟩ = some (.int .i64 (rowQ l j).d) := by
  have key : ∀ c, c < 4 → w.cell? ⟨eb, eoff + (j * 4 + c), none⟩ = some (.int .i64 (l.getD (4 * j + c) 0)) := fun c hc => by
    have hlt : j * 4 + c < l.length := by omega
    refine h _ _ ?_
    rw [List.getD_eq_getElem?_getD, show 4 * j + c = j * 4 + c by omega, List.getElem?_eq_getElem hlt]
    rfl
  exact ⟨key 0 (by decide), key 1 (by decide), key 2 (by decide), key 3 (by decide)⟩
end Go.Proofs.Ytojmagooapjohaa

/- A basis of solutions is known up to signs: mathematics, no Go.
Conditions: those written at each theorem. -/
namespace Go.Proofs.Ytojmagooapjohaa
set_option linter.unusedVariables false
set_option linter.unusedSimpArgs false
set_option maxRecDepth 1000000
open Um Tm

/-- the same up to the sign -/
def Pm (q q' : Q) : Prop := ∃ s : Int, (s = 1 ∨ s = -1) ∧ ∀ j, j < 4 → cmp j q' = s * cmp j q
inductive PmL : List Q → List Q → Prop
  | nil : PmL [] []
  | cons {q q' : Q} {l l' : List Q} : Pm q q' → PmL l l' → PmL (q :: l) (q' :: l')
theorem Pm.refl (q : Q) : Pm q q := ⟨1, .inl rfl, fun j _ => by omega⟩
theorem PmL.refl : ∀ l : List Q, PmL l l
  | [] => .nil
  | q :: l => .cons (Pm.refl q) (PmL.refl l)
theorem PmL.len {l l' : List Q} (h : PmL l l') : l'.length = l.length := by
  induction h with
  | nil => rfl
  | cons _ _ ih => simp [ih]
theorem PmL.mid {q : Q} {B2 : List Q} : ∀ (B1 : List Q) (C : List Q), PmL (B1 ++ q :: B2) C → ∃ C1 w C2, C = C1 ++ w :: C2 ∧ PmL B1 C1 ∧ Pm q w ∧ PmL B2 C2
  | [], C, h => by
    cases h with
    | cons h1 h2 => exact ⟨[], _, _, rfl, .nil, h1, h2⟩
  | p :: B1, C, h => by
    cases h with
    | cons h1 h2 =>
      obtain ⟨C1, w, C2, rfl, h3, h4, h5⟩ := PmL.mid B1 _ h2
      exact ⟨_ :: C1, w, C2, rfl, .cons h1 h3, h4, h5⟩
theorem PmL.app {B1 C1 B2 C2 : List Q} (h : PmL B1 C1) (h2 : PmL B2 C2) : PmL (B1 ++ B2) (C1 ++ C2) := by
  induction h with
  | nil => exact h2
  | cons h1 _ ih => exact .cons h1 ih
theorem pm_dot {q q' : Q} {s : Int} (e : Q) (h : ∀ j, j < 4 → cmp j q' = s * cmp j q) : dot4 e q' = s * dot4 e q := by
  rw [dot4_cmp, dot4_cmp, h 0 (by decide), h 1 (by decide), h 2 (by decide), h 3 (by decide)]
  grind
/-- the greatest common divisor of the four numbers -/
def gc4 (v : Q) : Nat := Nat.gcd (Nat.gcd v.a.natAbs v.b.natAbs) (Nat.gcd v.c.natAbs v.d.natAbs)
def lowF (v : Q) : Q := ⟨v.a / (gc4 v : Int), v.b / (gc4 v : Int), v.c / (gc4 v : Int), v.d / (gc4 v : Int), 0⟩
def nrF (e w q : Q) : Q := lowF (nrv e w q)
/-- one equation, by the numbers alone -/
def stepF (e : Q) : List Q → List Q → List Q
  | pre, [] => pre
  | pre, q :: B => if dot4 e q = 0 then stepF e (pre ++ [q]) B else (pre ++ B).map (nrF e q)
def solF (E : Nat → Q) : Nat → List Q
  | 0 => [un 0, un 1, un 2, un 3]
  | k + 1 => stepF (E k) [] (solF E k)
theorem stepF_keep (e : Q) : ∀ (B pre : List Q), (∀ q ∈ B, dot4 e q = 0) → stepF e pre B = pre ++ B
  | [], pre, _ => by simp [stepF]
  | q :: B, pre, h => by
    rw [stepF, if_pos (h q List.mem_cons_self), stepF_keep e B _ (fun x hx => h x (List.mem_cons_of_mem _ hx))]
    simp
theorem stepF_mid (e w : Q) (C2 : List Q) (hw : dot4 e w ≠ 0) : ∀ (C1 pre : List Q), (∀ q ∈ C1, dot4 e q = 0) → stepF e pre (C1 ++ w :: C2) = (pre ++ C1 ++ C2).map (nrF e w)
  | [], pre, _ => by
    rw [List.nil_append, stepF, if_neg hw, List.append_nil]
  | q :: C1, pre, h => by
    rw [List.cons_append, stepF, if_pos (h q List.mem_cons_self), stepF_mid e w C2 hw C1 _ (fun x hx => h x (List.mem_cons_of_mem _ hx))]
    simp
theorem gc4_dvd (v : Q) (j : Nat) (hj : j < 4) : (gc4 v : Int) ∣ cmp j v := by
  have h1 : gc4 v ∣ Nat.gcd v.a.natAbs v.b.natAbs := Nat.gcd_dvd_left _ _
  have h2 : gc4 v ∣ Nat.gcd v.c.natAbs v.d.natAbs := Nat.gcd_dvd_right _ _
  have key : ∀ x : Int, gc4 v ∣ x.natAbs → (gc4 v : Int) ∣ x := fun x h => Int.natAbs_dvd_natAbs.1 (by simpa using h)
  rcases cases4 hj with rfl | rfl | rfl | rfl
  · exact key _ (Nat.dvd_trans h1 (Nat.gcd_dvd_left _ _))
  · exact key _ (Nat.dvd_trans h1 (Nat.gcd_dvd_right _ _))
  · exact key _ (Nat.dvd_trans h2 (Nat.gcd_dvd_left _ _))
  · exact key _ (Nat.dvd_trans h2 (Nat.gcd_dvd_right _ _))
theorem dvd_gc4 (v : Q) (d : Nat) (h : ∀ j, j < 4 → (d : Int) ∣ cmp j v) : d ∣ gc4 v := by
  have key : ∀ x : Int, (d : Int) ∣ x → d ∣ x.natAbs := fun x h => by simpa using Int.natAbs_dvd_natAbs.2 h
  exact Nat.dvd_gcd (Nat.dvd_gcd (key _ (h 0 (by decide))) (key _ (h 1 (by decide)))) (Nat.dvd_gcd (key _ (h 2 (by decide))) (key _ (h 3 (by decide))))
/-- a primitive quaternion is, up to the sign, what is left of its multiples -/
theorem prm_low {v y : Q} {k : Int} (hk : k ≠ 0) (hv : ∀ j, j < 4 → cmp j v = k * cmp j y) (hy : Prm y) : Pm y (lowF v) := by
  have h1 : k.natAbs ∣ gc4 v := dvd_gc4 v _ (fun j hj => by
    rw [hv j hj]
    exact Int.dvd_trans (Int.natAbs_dvd.2 (Int.dvd_refl k)) (Int.dvd_mul_right ..))
  obtain ⟨t, ht⟩ := h1
  have ht1 : t = 1 := by
    have h2 := hy (t : Int) (fun j hj => by
      have h3 := gc4_dvd v j hj
      rw [hv j hj, ht] at h3
      have h4 : k * (t : Int) ∣ k * cmp j y := by
        refine Int.dvd_trans ?_ h3
        have e : (k.natAbs : Int) = k ∨ (k.natAbs : Int) = -k := by omega
        rw [Int.natCast_mul]
        rcases e with e | e <;> rw [e]
        · exact Int.dvd_refl _
        · rw [Int.neg_mul]; exact Int.dvd_neg.2 (Int.dvd_refl _)
      exact Int.dvd_of_mul_dvd_mul_left hk h4)
    have h5 : (t : Int).natAbs ∣ (1 : Int).natAbs := Int.natAbs_dvd_natAbs.2 h2
    have h6 : t ∣ 1 := by simpa using h5
    exact Nat.dvd_one.1 h6
  rw [ht1, Nat.mul_one] at ht
  have hp : 0 < (k.natAbs : Int) := by omega
  have hc : ∀ j, j < 4 → cmp j (lowF v) = cmp j v / (k.natAbs : Int) := fun j hj => by
    unfold lowF
    rw [ht]
    rcases cases4 hj with rfl | rfl | rfl | rfl <;> rfl
  by_cases h0 : 0 ≤ k
  · refine ⟨1, .inl rfl, fun j hj => ?_⟩
    rw [hc j hj, hv j hj, show (k.natAbs : Int) = k by omega, Int.mul_ediv_cancel_left _ hk]; omega
  · refine ⟨-1, .inr rfl, fun j hj => ?_⟩
    have e : k * cmp j y = (k.natAbs : Int) * (-1 * cmp j y) := by rw [show (k.natAbs : Int) = -k by omega]; grind
    rw [hc j hj, hv j hj, e, Int.mul_ediv_cancel_left _ (by omega)]
theorem nrL_map {e w : Q} : ∀ {l l' : List Q}, NrL e w l l' → ∀ (hp : ∀ q ∈ l', Prm q) {C : List Q} {w' : Q}, PmL l C → Pm w w' → PmL l' (C.map (nrF e w'))
  | _, _, .nil, _, _, _, hC, _ => by cases hC; exact .nil
  | _, _, .cons (q := q) (q' := q') hq hl, hp, _, w', hC, hw => by
    cases hC with
    | cons h1 h2 =>
      rename_i c C
      refine .cons ?_ (nrL_map hl (fun x hx => hp x (List.mem_cons_of_mem _ hx)) h2 hw)
      obtain ⟨k, hk, hj⟩ := hq
      obtain ⟨s, hs, h3⟩ := hw
      obtain ⟨t, ht, h4⟩ := h1
      have hst : s * t = 1 ∨ s * t = -1 := by rcases hs with rfl | rfl <;> rcases ht with rfl | rfl <;> decide
      refine prm_low (k := s * t * k) (by rcases hst with h | h <;> rw [h] <;> omega) (fun j hj4 => ?_) (hp q' List.mem_cons_self)
      rw [nrv_cmp _ _ _ _ hj4, pm_dot e h3, pm_dot e h4, h3 j hj4, h4 j hj4, Int.mul_assoc (s * t), ← hj j hj4]
      grind
/-- one narrowing, and the same by the numbers alone -/
theorem PmL.next {e q : Q} {B1 B2 B' C : List Q} (h : PmL (B1 ++ q :: B2) C) (h0 : ∀ x ∈ B1, dot4 e x = 0) (hq : dot4 e q ≠ 0) (hn : NrL e q (B1 ++ B2) B') (hp : ∀ q ∈ B', Prm q) : PmL B' (stepF e [] C) := by
  obtain ⟨C1, w, C2, rfl, h1, h2, h3⟩ := PmL.mid B1 C h
  have hz : ∀ {B1 C1 : List Q}, PmL B1 C1 → (∀ x ∈ B1, dot4 e x = 0) → ∀ x ∈ C1, dot4 e x = 0 := by
    intro B1 C1 h
    induction h with
    | nil => intro _ x hx; simp at hx
    | cons h1 _ ih =>
      intro h0 x hx
      rcases List.mem_cons.1 hx with rfl | hx
      · obtain ⟨s, _, h⟩ := h1
        rw [pm_dot e h, h0 _ List.mem_cons_self]; omega
      · exact ih (fun y hy => h0 y (List.mem_cons_of_mem _ hy)) x hx
  have hw : dot4 e w ≠ 0 := by
    obtain ⟨s, hs, h⟩ := h2
    rw [pm_dot e h]
    rcases hs with rfl | rfl <;> omega
  rw [stepF_mid e w C2 hw C1 [] (hz h1 h0), List.nil_append]
  exact nrL_map hn hp (h1.app h3) h2
theorem PmL.keep {e : Q} {B C : List Q} (h : PmL B C) (h0 : ∀ x ∈ B, dot4 e x = 0) : PmL B (stepF e [] C) := by
  have hz : ∀ {B1 C1 : List Q}, PmL B1 C1 → (∀ x ∈ B1, dot4 e x = 0) → ∀ x ∈ C1, dot4 e x = 0 := by
    intro B1 C1 h
    induction h with
    | nil => intro _ x hx; simp at hx
    | cons h1 _ ih =>
      intro h0 x hx
      rcases List.mem_cons.1 hx with rfl | hx
      · obtain ⟨s, _, h⟩ := h1
        rw [pm_dot e h, h0 _ List.mem_cons_self]; omega
      · exact ih (fun y hy => h0 y (List.mem_cons_of_mem _ hy)) x hx
  rw [stepF_keep e C [] (hz h h0)]
  exact h
end Go.Proofs.Ytojmagooapjohaa

/- One narrowing on the way to the solutions.
Conditions: the bounds written at each theorem. -/
namespace Go.Proofs.Ytojmagooapjohaa
set_option linter.unusedVariables false
set_option linter.unusedSimpArgs false
set_option maxRecDepth 1000000
open Go.RowKit
open Um Tm

theorem bd_down {n : Nat} (h : n = 4 ∨ n = 3 ∨ n = 2) : 2 * (16 * bd n * bd n) ≤ bd (n - 1) ∧ bd (n - 1) ≤ 34359738368 := by
  rcases h with rfl | rfl | rfl
  · exact (show 2 * (16 * bd 4 * bd 4) ≤ bd 3 ∧ bd 3 ≤ 34359738368 by decide)
  · exact (show 2 * (16 * bd 3 * bd 3) ≤ bd 2 ∧ bd 2 ≤ 34359738368 by decide)
  · exact (show 2 * (16 * bd 2 * bd 2) ≤ bd 1 ∧ bd 1 ≤ 34359738368 by decide)
theorem mid_len (B1 B2 : List Q) (q : Q) : (B1 ++ q :: B2).length = B1.length + B2.length + 1 := by simp; omega
theorem mid_down (B1 B2 : List Q) (q : Q) (h4 : (B1 ++ q :: B2).length ≤ 4) (h : B1 ++ B2 ≠ []) : 2 * (16 * bd (B1 ++ q :: B2).length * bd (B1 ++ q :: B2).length) ≤ bd ((B1 ++ q :: B2).length - 1) ∧ bd ((B1 ++ q :: B2).length - 1) ≤ 34359738368 := by
  refine bd_down ?_
  have h1 : (B1 ++ B2).length ≠ 0 := fun h1 => h (List.length_eq_zero_iff.1 h1)
  have h2 : (B1 ++ B2).length = B1.length + B2.length := by simp
  have h3 := mid_len B1 B2 q
  omega
theorem mid_step (l : List Int) (n k : Nat) (hE : B4 (rowQ l k) 4) (B1 B2 : List Q) (q : Q) (hb : Bas (rowQ l) k (B1 ++ q :: B2)) (hd : dot4 (rowQ l k) q ≠ 0) (C : List Q) (hC : PmL (B1 ++ q :: B2) C) (hz : ∀ x ∈ B1, dot4 (rowQ l k) x = 0) (W : World) (bo off cap : Nat) (hm : LiesI W bo off (flq (B1 ++ q :: B2))) : Calls Try.prog 108 #[.slice (some ⟨bo, off, none⟩) (B1 ++ q :: B2).length cap, .int .i64 (B1.length : Int), .agg #[.int .i64 (rowQ l k).a, .int .i64 (rowQ l k).b, .int .i64 (rowQ l k).c, .int .i64 (rowQ l k).d]] W fun e' w' => (∃ (B' : List Q) (o : Option Addr) (c : Nat), e' = .returned (.slice o B'.length c) ∧ Bas (rowQ l) (k + 1) B' ∧ PmL B' (stepF (rowQ l k) [] C) ∧ LiesOI w' o (flq B')) ∧ Below W.heap.size W w' := by
  refine (narrowed_any B1 B2 q (rowQ l k) bo off cap (bd (B1 ++ q :: B2).length) (bd ((B1 ++ q :: B2).length - 1)) W hm hE hb.b (bd_rng _) (mid_down B1 B2 q hb.l) hb.i hd hb.l).mono ?_
  rintro e' w' ⟨⟨B', v, he, hn, hbb, ho⟩, hw⟩
  refine ⟨?_, hw⟩
  have hj : B1.length < (B1 ++ q :: B2).length := by rw [mid_len]; omega
  have hq : (B1 ++ q :: B2)[B1.length] = q := by simp
  have ht : (B1 ++ q :: B2).take B1.length = B1 := by simp
  have hr : (B1 ++ q :: B2).drop (B1.length + 1) = B2 := by simp
  have hB := hb.next (B' := B') hj (by rw [hq]; exact hd) (by rw [hq, ht, hr]; exact hn) hbb
  obtain ⟨o, c, rfl⟩ := owned_formG ho
  refine ⟨B', o, c, he, hB, hC.next hz hd hn (fun x hx => (hbb x hx).p), ?_⟩
  by_cases hp : 0 < B'.length
  · obtain ⟨g, cap', he', _, hli⟩ := owned_liesNG ho hp (flq_len B')
    cases he'
    exact .inr ⟨g, 0, rfl, hli⟩
  · exact .inl (by rw [List.length_eq_zero_iff.1 (by omega : B'.length = 0)]; rfl)
theorem narrow_step (l : List Int) (k : Nat) (hE : B4 (rowQ l k) 4) (j : Nat) (B : List Q) (q : Q) (hx : B[j]? = some q) (hb : Bas (rowQ l) k B) (hd : dot4 (rowQ l k) q ≠ 0) (C : List Q) (hC : PmL B C) (hz : ∀ i x, B[i]? = some x → i < j → dot4 (rowQ l k) x = 0) (W : World) (bo off cap : Nat) (hm : LiesI W bo off (flq B)) : Calls Try.prog 108 #[.slice (some ⟨bo, off, none⟩) B.length cap, .int .i64 (j : Int), .agg #[.int .i64 (rowQ l k).a, .int .i64 (rowQ l k).b, .int .i64 (rowQ l k).c, .int .i64 (rowQ l k).d]] W fun e' w' => (∃ (B' : List Q) (o : Option Addr) (c : Nat), e' = .returned (.slice o B'.length c) ∧ Bas (rowQ l) (k + 1) B' ∧ PmL B' (stepF (rowQ l k) [] C) ∧ LiesOI w' o (flq B')) ∧ Below W.heap.size W w' := by
  obtain ⟨hj, hq⟩ := List.getElem?_eq_some_iff.1 hx
  obtain ⟨B1, B2, rfl, rfl⟩ : ∃ B1 B2, B = B1 ++ q :: B2 ∧ j = B1.length := ⟨B.take j, B.drop (j + 1), by rw [← hq]; exact split_get B hj, by rw [List.length_take]; omega⟩
  refine mid_step l 0 k hE B1 B2 q hb hd C hC (fun x hx => ?_) W bo off cap hm
  obtain ⟨i, hi, rfl⟩ := List.getElem_of_mem hx
  exact hz i _ (by rw [List.getElem?_append_left hi, List.getElem?_eq_getElem hi]) hi
end Go.Proofs.Ytojmagooapjohaa

/- A basis of the solutions of equations, as the program makes it.
Conditions: the bounds written at each theorem. -/
namespace Go.Proofs.Ytojmagooapjohaa
set_option linter.unusedVariables false
set_option linter.unusedSimpArgs false
set_option maxRecDepth 1000000
open Go.RowKit
open Um Tm

theorem b4_great {q : Q} {n : Nat} (hq : B4 q (bd n)) : B4 q 34359738368 := by
  have bdr := bd_rng n
  exact ⟨by have := hq.a; omega, by have := hq.b; omega, by have := hq.c; omega, by have := hq.d; omega⟩
set_option maxHeartbeats 6400000 in
theorem solutions_any (l : List Int) (n cap : Nat) (ao : Option Addr) (w : World) (h : LiesOI w ao l) (hl : l.length = n * 4) (hn : n ≤ 1000) (hE : ∀ j, j < n → B4 (rowQ l j) 4) : Calls Try.prog 63 #[.slice ao n cap] w fun e w' => (∃ (B : List Q) (o : Option Addr) (c : Nat), e = .returned (.slice o B.length c) ∧ Bas (rowQ l) n B ∧ PmL B (solF (rowQ l) n) ∧ LiesOI w' o (flq B)) ∧ Below w.heap.size w w' := by
  have c1 := fun W : World => gqCo_any W
  have H := Lib.hid h
  have HLL := Lib.hid hl
  have HR := Lib.hid hE
  clear h hE hl
  go_enter Try.func63, Try.ntmps63
  go_wp2
  go_step3
  go_wp2_with ((with_reducible refine (c1 _).mono ?_); rintro e w1 ⟨⟨g, rfl, hg, -⟩, hw1⟩)
  have HB1 := Lib.hid hw1
  have HG1 : Hid (LiesOI w1 (some ⟨g, 0, none⟩) (flq [un 0, un 1, un 2, un 3])) := Lib.hid (.inr ⟨g, 0, rfl, hg⟩)
  clear c1 hg hw1
  go_step3
  go_wp2
  go_loopw [3, 5, 6, 7, 11, 17] (fun p _ _ _ q _ wr => ∃ (k : Nat) (B : List Q) (o : Option Addr) (c : Nat), k ≤ n ∧ q = .int .i64 k ∧ p = .slice o B.length c ∧ Hid (Bas (rowQ l) k B) ∧ Hid (PmL B (solF (rowQ l) k)) ∧ Hid (LiesOI wr o (flq B)) ∧ Hid (Below w.heap.size w wr)) (fun _ _ _ _ q _ _ => n - (intOf q).toNat)
  case atStart => exact ⟨0, [un 0, un 1, un 2, un 3], some ⟨g, 0, none⟩, 4, by omega, rfl, rfl, Lib.hid (Bas.start _), Lib.hid (PmL.refl _), HG1, HB1⟩
  case round =>
    obtain ⟨k, B, o, c, hk, rfl, rfl, HBs, HPm, HL, HW⟩ := hrel
    clear HG1 HB1
    obtain ⟨wo, hwo⟩ : ∃ x, x = wr := ⟨_, rfl⟩
    subst hwo
    by_cases hlt : k < n
    · obtain ⟨eb, eoff, rfl, hli0⟩ : ∃ b f, ao = some ⟨b, f, none⟩ ∧ LiesI w b f l := by
        rcases H.out with h | h
        · have := HLL.out; rw [h] at this; simp at this; omega
        · exact h
      obtain ⟨l0, l1, l2, l3⟩ := row_cells (hli0.later HW.out) HLL.out hlt
      clear hli0
      have ik : (k : Int) < (n : Int) := by omega
      have lb := World.block_lt_of_cell? _ _ l0
      have hR := HR.out k hlt
      have HC2 := Lib.hid (fun (j : Nat) (q : Q) (hx : B[j]? = some q) (hz : ∀ i x, B[i]? = some x → i < j → dot4 (rowQ l k) x = 0) (hd : dot4 (rowQ l k) q ≠ 0) => narrow_step l k hR j B q hx HBs.out hd _ HPm.out hz)
      generalize he : rowQ l k = e at *
      have HEE := Lib.hid he
      have HRR := Lib.hid hR
      clear he hR
      go_wp2
      have E0 := Lib.hid (IBox.new4G (w := wo) (T := 89) (x0 := e.a) (x1 := e.b) (x2 := e.c) (x3 := e.d))
      have L0 := Lib.hid (HL.out.later (ba1 (o := .cells #[.int .i64 e.a, .int .i64 e.b, .int .i64 e.c, .int .i64 e.d] 89)))
      have B0 := Lib.hid (HW.out.trans ((ba1 (o := .cells #[.int .i64 e.a, .int .i64 e.b, .int .i64 e.c, .int .i64 e.d] 89)).mono HW.out.size))
      clear l0 l1 l2 l3 lb HL HW
      generalize wo.alloc (.cells #[.int .i64 e.a, .int .i64 e.b, .int .i64 e.c, .int .i64 e.d] 89) = X at *
      generalize wo.heap.size = P at *
      go_loopw [3, 6, 7, 17] (fun p _ _ q wr => ∃ j : Nat, j ≤ B.length ∧ q = .int .i64 j ∧ p = .slice o B.length c ∧ Hid (∀ i q, B[i]? = some q → i < j → dot4 e q = 0) ∧ Hid (IBox wr P [e.a, e.b, e.c, e.d]) ∧ Hid (LiesOI wr o (flq B)) ∧ Hid (Below w.heap.size w wr)) (fun _ _ _ q _ => B.length - (intOf q).toNat)
      case atStart => exact ⟨0, by omega, rfl, rfl, Lib.hid (fun i q hi hj => by omega), E0, L0, B0⟩
      case round =>
        obtain ⟨j, hj, rfl, rfl, HZ, HE1, HL1, HB1⟩ := hrel
        clear E0 L0 B0
        have h4 := HBs.out.l
        by_cases hjl : j < B.length
        · obtain ⟨bo, off, rfl, hli⟩ : ∃ b f, o = some ⟨b, f, none⟩ ∧ LiesI wr b f (flq B) := by
            rcases HL1.out with h | h
            · have := flq_len B; rw [h] at this; simp at this; omega
            · exact h
          obtain ⟨q, hx⟩ : ∃ q, B[j]? = some q := ⟨_, List.getElem?_eq_getElem hjl⟩
          obtain ⟨l0, l1, l2, l3⟩ := liesq hli hx
          have HLI := Lib.hid hli
          have lb := World.block_lt_of_cell? _ _ l0
          have ij : (j : Int) < (B.length : Int) := by omega
          have hq := HBs.out.b q (List.mem_of_getElem? hx)
          have cA : ∀ W : World, Calls Try.prog 46 #[.agg #[.int .i64 e.a, .int .i64 e.b, .int .i64 e.c, .int .i64 e.d], .agg #[.int .i64 q.a, .int .i64 q.b, .int .i64 q.c, .int .i64 q.d]] W fun e' w' => e' = .returned (.int .i64 (dot4 e q)) ∧ Below W.heap.size W w' := fun W => gqAt_big e q W HRR.out (b4_great hq)
          have cN := Lib.hid (HC2.out j q hx HZ.out)
          have ea := HE1.out.at (i := 0) (x := e.a) rfl
          have eb := HE1.out.at (i := 1) (x := e.b) rfl
          have ec := HE1.out.at (i := 2) (x := e.c) rfl
          have ed := HE1.out.at (i := 3) (x := e.d) rfl
          have le := HE1.out.lt
          have HZ' : Hid (dot4 e q = 0 → ∀ i q, B[i]? = some q → i < j + 1 → dot4 e q = 0) := Lib.hid (fun h0 i q' hi hlt => by
            by_cases hij : i = j
            · subst hij; rw [hx] at hi; cases hi; exact h0
            · exact HZ.out i q' hi (by omega))
          clear hx hli hq
          by_cases hd : dot4 e q = 0
          · rw [hd] at cA
            go_wp2_with (fail)
            refine (cA _).mono ?_
            rintro e' w2 ⟨rfl, hw2⟩
            have b2 := bel1 hw2
            have E2 := Lib.hid (HE1.out.later b2)
            have L2 := Lib.hid (HL1.out.later b2)
            have B2 := Lib.hid (HB1.out.trans (b2.mono HB1.out.size))
            have Z2 := Lib.hid (HZ'.out hd)
            clear hw2 b2 HE1 HL1 HB1 HZ HZ' HLI ea eb ec ed le l0 l1 l2 l3 lb cA cN
            go_wp2
            exact ⟨⟨j + 1, by omega, by go_num, rfl, Z2, E2, L2, B2⟩, by simp [intOf]; omega⟩
          · have hd' : (dot4 e q != 0) = true := by simpa using hd
            go_wp2_with (fail)
            refine (cA _).mono ?_
            rintro e' w2 ⟨rfl, hw2⟩
            have b2 := bel1 hw2
            have E2 := Lib.hid (HE1.out.later b2)
            have L2 := Lib.hid (HLI.out.later b2)
            have B2 := Lib.hid (HB1.out.trans (b2.mono HB1.out.size))
            have dN := cN.out hd
            clear hw2 b2 HE1 HL1 HB1 HZ HZ' HLI ea eb ec ed le l0 l1 l2 l3 lb cA cN
            have ea := E2.out.at (i := 0) (x := e.a) rfl
            have eb := E2.out.at (i := 1) (x := e.b) rfl
            have ec := E2.out.at (i := 2) (x := e.c) rfl
            have ed := E2.out.at (i := 3) (x := e.d) rfl
            go_wp2_with (fail)
            refine (dN _ _ _ _ L2.out).mono ?_
            rintro e' w3 ⟨⟨B', o', c', rfl, hB', hP', hL'⟩, hw3⟩
            have B3 := Lib.hid (B2.out.trans (hw3.mono B2.out.size))
            have HB' := Lib.hid hB'
            have HP' : Hid (PmL B' (solF (rowQ l) (k + 1))) := Lib.hid (by rw [solF, HEE.out]; exact hP')
            have HL' := Lib.hid hL'
            clear hw3 B2 dN hB' hP' hL' E2 L2 ea eb ec ed
            go_wp2
            exact ⟨⟨k + 1, B', o', c', by omega, by go_num, rfl, HB', HP', HL', B3⟩, by simp [intOf]; omega⟩
        · obtain rfl : j = B.length := by omega
          have HK : Hid (Bas (rowQ l) (k + 1) B) := Lib.hid (HBs.out.keep (fun q hq => by
            obtain ⟨i, hi, rfl⟩ := List.getElem_of_mem hq
            rw [HEE.out]
            exact HZ.out i _ (List.getElem?_eq_getElem hi) hi))
          have HPK : Hid (PmL B (solF (rowQ l) (k + 1))) := Lib.hid (by
            rw [solF, HEE.out]
            exact HPm.out.keep (fun q hq => by
              obtain ⟨i, hi, rfl⟩ := List.getElem_of_mem hq
              exact HZ.out i _ (List.getElem?_eq_getElem hi) hi))
          go_wp2
          exact ⟨⟨k + 1, B, o, c, by omega, by go_num, rfl, HK, HPK, HL1, HB1⟩, by simp [intOf]; omega⟩
    · obtain rfl : k = n := by omega
      go_wp2
      rw [Exit.noGoto_ret]
      go_ret
      exact ⟨⟨B, o, c, rfl, HBs.out, HPm.out, HL.out⟩, HW.out⟩
end Go.Proofs.Ytojmagooapjohaa
