/- Independent solutions are never more than those that span: mathematics, no Go.
Conditions: those written at each theorem. -/
import Derived.Test.YtojmagooapjohaaSoA
import Derived.Test.YtojmagooapjohaaGauG
namespace Go.Proofs.Ytojmagooapjohaa
set_option linter.unusedVariables false
set_option linter.unusedSimpArgs false
set_option maxRecDepth 1000000
open Um Tm

/-- a sum of multiples, over anything -/
def sg {α : Type} (f : α → Int) : List Int → List α → Int
  | c :: cs, q :: B => c * f q + sg f cs B
  | _, _ => 0
theorem sg_nil {α : Type} (f : α → Int) (cs : List Int) : sg f cs [] = 0 := by cases cs <;> rfl
theorem sg_mid {α : Type} (f : α → Int) (w : α) (B2 : List α) : ∀ (B1 : List α) (c1 : List Int) (c : Int) (c2 : List Int), c1.length = B1.length → sg f (c1 ++ c :: c2) (B1 ++ w :: B2) = sg f (c1 ++ c2) (B1 ++ B2) + c * f w := by
  intro B1
  induction B1 with
  | nil => intro c1 c c2 h; cases c1 with
    | nil => simp only [List.nil_append, sg]; omega
    | cons x l => simp at h
  | cons q B1 ih => intro c1 c c2 h; cases c1 with
    | nil => simp at h
    | cons x l =>
      have := ih l c c2 (by simpa using h)
      simp only [List.cons_append, sg, this]
      omega
theorem sg_map {α : Type} (f : α → Int) (k : Int) : ∀ (B : List α) (cs : List Int), sg f (cs.map (k * ·)) B = k * sg f cs B := by
  intro B
  induction B with
  | nil => intro cs; rw [sg_nil, sg_nil]; simp
  | cons q B ih => intro cs; cases cs with
    | nil => simp [sg]
    | cons c cs => simp only [List.map_cons, sg, ih]; grind
theorem sg_zero {α : Type} (f : α → Int) : ∀ (B : List α) (cs : List Int), (∀ q ∈ B, f q = 0) → sg f cs B = 0 := by
  intro B
  induction B with
  | nil => intro cs _; exact sg_nil f cs
  | cons q B ih => intro cs h; cases cs with
    | nil => rfl
    | cons c cs => simp only [sg, h q List.mem_cons_self, ih cs (fun x hx => h x (List.mem_cons_of_mem _ hx))]; simp
theorem sg_lin {α : Type} (f g h : α → Int) (j k : Int) : ∀ (B : List α) (cs : List Int), (∀ q ∈ B, h q = j * f q + k * g q) → sg h cs B = j * sg f cs B + k * sg g cs B := by
  intro B
  induction B with
  | nil => intro cs _; rw [sg_nil, sg_nil, sg_nil]; simp
  | cons q B ih => intro cs hh; cases cs with
    | nil => simp [sg]
    | cons c cs =>
      simp only [sg, hh q List.mem_cons_self, ih cs (fun x hx => hh x (List.mem_cons_of_mem _ hx))]
      grind
theorem sg_of {α β : Type} (f : β → Int) (r : α → β) : ∀ (B : List α) (cs : List Int), sg f cs (B.map r) = sg (fun b => f (r b)) cs B := by
  intro B
  induction B with
  | nil => intro cs; rw [List.map_nil, sg_nil, sg_nil]
  | cons q B ih => intro cs; cases cs with
    | nil => rfl
    | cons c cs => simp only [List.map_cons, sg, ih]
theorem sg_smf (f : Q → Int) : ∀ (B : List Q) (cs : List Int), smf f cs B = sg f cs B := by
  intro B
  induction B with
  | nil => intro cs; rw [smf_nil, sg_nil]
  | cons q B ih => intro cs; cases cs with
    | nil => rfl
    | cons c cs => simp only [smf, sg, ih]
/-- more rows than columns: some combination is 0 -/
theorem kern : ∀ (m : Nat) (R : List (List Int)), m < R.length → ∃ c : List Int, c.length = R.length ∧ (∃ x ∈ c, x ≠ 0) ∧ ∀ j, j < m → sg (fun r => r.getD j 0) c R = 0
  | 0, R, h => ⟨List.replicate R.length 1, by simp, ⟨1, List.mem_replicate.2 ⟨by omega, rfl⟩, by decide⟩, fun j hj => by omega⟩
  | m + 1, R, h => by
    by_cases ha : ∀ r ∈ R, r.getD m 0 = 0
    · obtain ⟨c, h1, h2, h3⟩ := kern m R (by omega)
      refine ⟨c, h1, h2, fun j hj => ?_⟩
      by_cases hjm : j = m
      · subst hjm; exact sg_zero _ R c ha
      · exact h3 j (by omega)
    · obtain ⟨p, hp, hp0⟩ : ∃ p ∈ R, p.getD m 0 ≠ 0 := Classical.byContradiction fun hn => ha fun r hr => Classical.byContradiction fun h0 => hn ⟨r, hr, h0⟩
      obtain ⟨R1, R2, rfl⟩ := List.append_of_mem hp
      have hl : (R1 ++ p :: R2).length = (R1 ++ R2).length + 1 := by simp; omega
      obtain ⟨c', h1, ⟨x, hx, hx0⟩, h3⟩ := kern m ((R1 ++ R2).map fun r => (List.range m).map fun j => p.getD m 0 * r.getD j 0 - r.getD m 0 * p.getD j 0) (by rw [List.length_map]; omega)
      rw [List.length_map] at h1
      have hc1 : (c'.take R1.length).length = R1.length := by simp at h1 ⊢; omega
      have hcc : c'.take R1.length ++ c'.drop R1.length = c' := List.take_append_drop _ _
      refine ⟨(c'.take R1.length).map (p.getD m 0 * ·) ++ (-(sg (fun r => r.getD m 0) c' (R1 ++ R2))) :: (c'.drop R1.length).map (p.getD m 0 * ·), by simp at h1 hc1 ⊢; omega, ⟨p.getD m 0 * x, ?_, fun h0 => ?_⟩, fun j hj => ?_⟩
      · rw [← hcc] at hx
        rcases List.mem_append.1 hx with hx | hx
        · exact List.mem_append_left _ (List.mem_map.2 ⟨x, hx, rfl⟩)
        · exact List.mem_append_right _ (List.mem_cons_of_mem _ (List.mem_map.2 ⟨x, hx, rfl⟩))
      · rcases Int.mul_eq_zero.1 h0 with h0 | h0
        · exact hp0 h0
        · exact hx0 h0
      · rw [sg_mid _ _ _ _ _ _ _ (by rw [List.length_map]; exact hc1), ← List.map_append, hcc, sg_map]
        by_cases hjm : j = m
        · subst hjm; grind
        · have h4 := h3 j (by omega)
          rw [sg_of, sg_lin (fun r => r.getD j 0) (fun r => r.getD m 0) _ (p.getD m 0) (-(p.getD j 0)) _ _ (fun r _ => by
            rw [List.getD_eq_getElem?_getD, List.getElem?_map, List.getElem?_range (by omega)]
            simp only [Option.map_some, Option.getD_some]
            grind)] at h4
          grind
/-- a sum with coefficients by their numbers -/
def sfn (f : Q → Int) : (Nat → Int) → List Q → Int
  | g, q :: B => g 0 * f q + sfn f (fun j => g (j + 1)) B
  | _, [] => 0
theorem sfn_smf (f : Q → Int) : ∀ (B : List Q) (cs : List Int), cs.length = B.length → smf f cs B = sfn f (fun j => cs.getD j 0) B := by
  intro B
  induction B with
  | nil => intro cs _; rw [smf_nil]; rfl
  | cons q B ih => intro cs h; cases cs with
    | nil => simp at h
    | cons c cs =>
      have := ih cs (by simpa using h)
      simp only [smf, sfn, this]
      simp
theorem sfn_lin (f : Q → Int) (k : Int) : ∀ (B : List Q) (g h u : Nat → Int), (∀ j, j < B.length → u j = k * g j + h j) → sfn f u B = k * sfn f g B + sfn f h B := by
  intro B
  induction B with
  | nil => intro g h u _; simp [sfn]
  | cons q B ih => intro g h u hu; 
                   have h1 := ih (fun j => g (j + 1)) (fun j => h (j + 1)) (fun j => u (j + 1)) (fun j hj => hu (j + 1) (by simp; omega))
                   have h2 := hu 0 (by simp)
                   simp only [sfn, h1, h2]
                   grind
theorem sfn_zero (f : Q → Int) : ∀ (B : List Q) (g : Nat → Int), (∀ j, j < B.length → g j = 0) → sfn f g B = 0 := by
  intro B
  induction B with
  | nil => intro g _; rfl
  | cons q B ih => intro g hg
                   have h1 := ih (fun j => g (j + 1)) (fun j hj => hg (j + 1) (by simp; omega))
                   have h2 := hg 0 (by simp)
                   simp only [sfn, h1, h2]
                   simp
theorem sum_cols (f : Q → Int) (B' : List Q) (r : Q → Int × List Int) : ∀ (B : List Q) (c : List Int), (∀ b ∈ B, (r b).2.length = B'.length ∧ (r b).1 * f b = smf f (r b).2 B') → sg (fun b => (r b).1 * f b) c B = sfn f (fun j => sg (fun b => (r b).2.getD j 0) c B) B' := by
  intro B
  induction B with
  | nil => intro c _; rw [sg_nil, sfn_zero]; intro j _; exact sg_nil _ _
  | cons b B ih => intro c h; cases c with
    | nil => exact (sfn_zero f B' _ (fun j _ => rfl)).symm
    | cons c cs =>
      have h1 := ih cs (fun x hx => h x (List.mem_cons_of_mem _ hx))
      obtain ⟨h2, h3⟩ := h b List.mem_cons_self
      rw [sfn_smf f B' _ h2] at h3
      simp only [sg, h1, h3]
      exact (sfn_lin f c B' _ _ _ (fun j _ => rfl)).symm
/-- independent solutions are never more than those that span -/
theorem Ind.le {P : Q → Prop} {B B' : List Q} (hI : Ind B) (hP : ∀ q ∈ B, P q) (hS : Spn P B') : B.length ≤ B'.length := by
  refine Classical.byContradiction fun hn => ?_
  have hex : ∀ b : Q, ∃ r : Int × List Int, P b → r.1 ≠ 0 ∧ r.2.length = B'.length ∧ ∀ k, k < 4 → r.1 * cmp k b = smf (cmp k) r.2 B' := fun b => by
    by_cases hb : P b
    · obtain ⟨m, cs, h1, h2, h3⟩ := hS b hb
      exact ⟨(m, cs), fun _ => ⟨h1, h2, h3⟩⟩
    · exact ⟨(0, []), fun h => absurd h hb⟩
  obtain ⟨r, hr⟩ : ∃ r : Q → Int × List Int, ∀ b, P b → (r b).1 ≠ 0 ∧ (r b).2.length = B'.length ∧ ∀ k, k < 4 → (r b).1 * cmp k b = smf (cmp k) (r b).2 B' := ⟨fun b => Classical.choose (hex b), fun b => Classical.choose_spec (hex b)⟩
  obtain ⟨c, h1, ⟨x, hx, hx0⟩, h3⟩ := kern B'.length (B.map fun b => (r b).2) (by rw [List.length_map]; omega)
  rw [List.length_map] at h1
  have h4 : ∀ j, j < B'.length → sg (fun b => (r b).2.getD j 0) c B = 0 := fun j hj => by
    have := h3 j hj
    rwa [sg_of] at this
  have h5 : ∀ k, k < 4 → sg (fun b => (r b).1 * cmp k b) c B = 0 := fun k hk => by
    rw [sum_cols (cmp k) B' r B c (fun b hb => ⟨(hr b (hP b hb)).2.1, (hr b (hP b hb)).2.2 k hk⟩)]
    exact sfn_zero _ _ _ h4
  -- the coefficients times the multiples
  have key : ∀ (B : List Q) (c : List Int), c.length = B.length → ∃ d : List Int, d.length = B.length ∧ (∀ k, smf (cmp k) d B = sg (fun b => (r b).1 * cmp k b) c B) ∧ ((∀ b ∈ B, (r b).1 ≠ 0) → (∀ y ∈ d, y = 0) → ∀ y ∈ c, y = 0) := by
    intro B
    induction B with
    | nil => intro c hc; exact ⟨[], rfl, fun k => by rw [smf_nil, sg_nil], fun _ _ y hy => by rw [List.length_eq_zero_iff.1 hc] at hy; simp at hy⟩
    | cons b B ih => intro c hc; cases c with
      | nil => simp at hc
      | cons c cs =>
        obtain ⟨d, e1, e2, e3⟩ := ih cs (by simpa using hc)
        refine ⟨(c * (r b).1) :: d, by simp [e1], fun k => ?_, fun hb hd y hy => ?_⟩
        · simp only [smf, sg, e2]; grind
        · rcases List.mem_cons.1 hy with rfl | hy
          · rcases Int.mul_eq_zero.1 (hd _ List.mem_cons_self) with h0 | h0
            · exact h0
            · exact absurd h0 (hb b List.mem_cons_self)
          · exact e3 (fun z hz => hb z (List.mem_cons_of_mem _ hz)) (fun z hz => hd z (List.mem_cons_of_mem _ hz)) y hy
  obtain ⟨d, e1, e2, e3⟩ := key B c h1
  exact hx0 (e3 (fun b hb => (hr b (hP b hb)).1) (hI d e1 (fun k hk => by rw [e2]; exact h5 k hk)) x hx)
end Go.Proofs.Ytojmagooapjohaa

/- Certificates, equivalence and freedom, as the program finds them.
Conditions: those written at each theorem. -/
namespace Go.Proofs.Ytojmagooapjohaa
set_option linter.unusedVariables false
set_option linter.unusedSimpArgs false
set_option maxRecDepth 1000000
open Go.RowKit
open Um Tm

/-- the rows of the equations between loops -/
def rwE (X Y : List Q) : Nat → Q := rowQ (eqL X Y X.length)
/-- a basis of the solutions -/
def BasE (X Y : List Q) (B : List Q) : Prop := Bas (rwE X Y) (X.length * 4) B ∧ PmL B (solF (rwE X Y) (X.length * 4))
theorem bw_ok (a b c : Int) (bl off bl' off' cap cap' N : Nat) (L M : List Q) (ms ns : List Int) (w : World) (h : Lies w bl off L) (h' : Lies w bl' off' M) (hF : fldR a b c L 0) (hF' : fldR a b c M 0) (hS : smR L ms true) (hS' : smR M ns true) (hN : (N : Int) = a * b * c) : Calls Try.prog 45 #[.agg #[.int .i64 a, .int .i64 b, .int .i64 c, .slice (some ⟨bl, off, none⟩) L.length cap], .agg #[.int .i64 a, .int .i64 b, .int .i64 c, .slice (some ⟨bl', off', none⟩) M.length cap']] w fun e w' => (∃ (ao : Option Addr) (k : Nat), e = .returned (.tuple #[.slice ao ((lpL a b c N L).length * 4) k, .int .i64 0]) ∧ LiesOI w' ao (eqL (lpL a b c N L) (lpL a b c N M) (lpL a b c N L).length)) ∧ Below w.heap.size w w' := by
  refine (gaBw_ok a b c bl off bl' off' cap cap' N L M ms ns w h h' hF hF' hS hS' hN).mono ?_
  rintro e w' ⟨⟨B, v, rfl, ho⟩, hw⟩
  refine ⟨?_, hw⟩
  obtain ⟨ao, k, rfl⟩ := owned_formG ho
  refine ⟨ao, k, rfl, ?_⟩
  by_cases hp : 0 < (lpL a b c N L).length * 4
  · obtain ⟨g, cap, he, _, hl⟩ := owned_liesNG ho hp (by rw [eqL_len]; omega)
    cases he
    exact .inr ⟨g, 0, rfl, hl⟩
  · refine .inl (List.length_eq_zero_iff.1 ?_)
    rw [eqL_len]; omega
theorem bw_ans (a b c a' b' c' : Int) (ao bo : Option Addr) (cap cap' : Nat) (L M : List Q) (hlen : L.length ≤ 1000000) (hlen' : M.length ≤ 1000000) :
    (∃ r : Int, r ≠ 0 ∧ ∀ W : World, LiesO W ao L → LiesO W bo M → Calls Try.prog 45 #[.agg #[.int .i64 a, .int .i64 b, .int .i64 c, .slice ao L.length cap], .agg #[.int .i64 a', .int .i64 b', .int .i64 c', .slice bo M.length cap']] W fun e w' => e = .returned (.tuple #[.slice none 0 0, .int .i64 r]) ∧ Below W.heap.size W w') ∨
    (∃ (N : Nat) (ms ns : List Int), (a = a' ∧ b = b' ∧ c = c') ∧ fldR a b c L 0 ∧ fldR a b c M 0 ∧ smR L ms true ∧ smR M ns true ∧ (N : Int) = a * b * c) := by
  obtain ⟨ms, ns, r, hr⟩ := prR_ex a b c L a' b' c' M
  by_cases h0 : r = 0
  · subst h0
    by_cases he : a = a' ∧ b = b' ∧ c = c'
    · obtain ⟨h1, h2, h3, h4⟩ := prR_ok hr
      obtain ⟨rfl, rfl, rfl⟩ := he
      have hz := (fldR_ok h1).1
      obtain ⟨-, -, p3, -⟩ := mul_rng hz.a1 hz.a4 hz.b1 hz.b4 hz.c1 hz.c4
      exact .inr ⟨(a * b * c).toNat, ms, ns, ⟨rfl, rfl, rfl⟩, h1, h2, h3, h4, by omega⟩
    · exact .inl ⟨8, by decide, fun W h h' => gaBw_fit a b c a' b' c' ao bo cap cap' L M ms ns W h h' hr he hlen hlen'⟩
  · exact .inl ⟨r, h0, fun W h h' => gaBw_err a b c a' b' c' r ao bo cap cap' L M ms ns W h h' hr h0 hlen hlen'⟩
theorem sol_of_rows {X Y : List Q} (hX : AllS X) (hY : AllS Y) (hl : Y.length = X.length) (ao : Option Addr) (k : Nat) (W : World) (h : LiesOI W ao (eqL X Y X.length)) (hlen : X.length ≤ 200) : Calls Try.prog 63 #[.slice ao (X.length * 4) k] W fun e w' => (∃ (B : List Q) (o : Option Addr) (c : Nat), e = .returned (.slice o B.length c) ∧ BasE X Y B ∧ LiesOI w' o (flq B)) ∧ Below W.heap.size W w' :=
  (solutions_any (eqL X Y X.length) (X.length * 4) k ao W h (by rw [eqL_len]; omega) (by omega) (fun j hj => row_bnd hX hY hl hj)).mono fun e w' ⟨⟨B, o, c, e1, e2, e3, e4⟩, hw⟩ => ⟨⟨B, o, c, e1, ⟨e2, e3⟩, e4⟩, hw⟩
theorem BasE.nil {X Y : List Q} {q : Q} (hX : AllS X) (hY : AllS Y) (hl : Y.length = X.length) (h : BasE X Y []) (hc : carP X Y q) : Z4 q := by
  obtain ⟨m, cs, hm, _, hs⟩ := h.1.s q (fun j hj => (car_rows hX hY hl).1 hc j hj)
  have z : ∀ k, k < 4 → cmp k q = 0 := fun k hk => by
    have := hs k hk
    rw [smf_nil] at this
    rcases Int.mul_eq_zero.1 this with h0 | h0
    · exact absurd h0 hm
    · exact h0
  exact ⟨z 0 (by decide), z 1 (by decide), z 2 (by decide), z 3 (by decide)⟩
theorem BasE.car {X Y B : List Q} {q : Q} (hX : AllS X) (hY : AllS Y) (hl : Y.length = X.length) (h : BasE X Y B) (hq : q ∈ B) : carP X Y q := (car_rows hX hY hl).2 fun j hj => h.1.z j hj q hq
theorem lp_good {a b c : Int} {N : Nat} {L : List Q} (hF : Fl a b c L) (hS : AllS L) (hN : (N : Int) = a * b * c) : AllS (lpL a b c N L) ∧ (lpL a b c N L).length ≤ 48 := by
  have hp16 := hF.z.p
  have hn := hF.n
  exact ⟨lpK_all _ (fxL_all hF hS hN) _ (by rw [fxL_len]; exact Nat.le_refl _), Nat.le_trans (lpK_len _ _ _) (by omega)⟩
theorem lp_same {a b c : Int} {N : Nat} {L M : List Q} (hl : L.length = M.length) : (lpL a b c N M).length = (lpL a b c N L).length := by
  unfold lpL; rw [hl]; exact lpK_len_eq _ _ _ _
/-! ### Freedom -/
set_option maxHeartbeats 1600000 in
theorem free_err (a b c r : Int) (ao : Option Addr) (cap : Nat) (L : List Q) (w : World) (h : LiesO w ao L) (h0 : r ≠ 0) (cB : ∀ W : World, LiesO W ao L → LiesO W ao L → Calls Try.prog 45 #[.agg #[.int .i64 a, .int .i64 b, .int .i64 c, .slice ao L.length cap], .agg #[.int .i64 a, .int .i64 b, .int .i64 c, .slice ao L.length cap]] W fun e w' => e = .returned (.tuple #[.slice none 0 0, .int .i64 r]) ∧ Below W.heap.size W w') : Calls Try.prog 27 #[.agg #[.int .i64 a, .int .i64 b, .int .i64 c, .slice ao L.length cap]] w fun e w' => e = .returned (.tuple #[.int .i64 0, .int .i64 r]) ∧ Below w.heap.size w w' := by
  have H := Lib.hid h
  have t0 : (r != 0) = true := by simpa using h0
  clear h h0
  go_enter Try.func27, Try.ntmps27
  go_wp2_with (fail)
  refine (cB _ (H.out.later ba1) (H.out.later ba1)).mono ?_
  rintro e w1 ⟨rfl, hw1⟩
  go_wp2
  go_ret2
  exact ⟨rfl, bel1 hw1⟩
set_option maxHeartbeats 1600000 in
theorem free_ok (a b c : Int) (ao : Option Addr) (cap : Nat) (L X : List Q) (w : World) (h : LiesO w ao L) (hX : AllS X) (hlen : X.length ≤ 200) (cB : ∀ W : World, LiesO W ao L → LiesO W ao L → Calls Try.prog 45 #[.agg #[.int .i64 a, .int .i64 b, .int .i64 c, .slice ao L.length cap], .agg #[.int .i64 a, .int .i64 b, .int .i64 c, .slice ao L.length cap]] W fun e w' => (∃ (ao : Option Addr) (k : Nat), e = .returned (.tuple #[.slice ao (X.length * 4) k, .int .i64 0]) ∧ LiesOI w' ao (eqL X X X.length)) ∧ Below W.heap.size W w') : Calls Try.prog 27 #[.agg #[.int .i64 a, .int .i64 b, .int .i64 c, .slice ao L.length cap]] w fun e w' => (∃ B, BasE X X B ∧ e = .returned (.tuple #[.int .i64 (B.length : Int), .int .i64 0])) ∧ Below w.heap.size w w' := by
  have H := Lib.hid h
  have c2 := fun (W : World) (o : Option Addr) (k : Nat) (h : LiesOI W o (eqL X X X.length)) => sol_of_rows hX hX rfl o k W h hlen
  clear h hX hlen
  generalize hn : X.length * 4 = n at *
  clear hn
  go_enter Try.func27, Try.ntmps27
  go_wp2_with (fail)
  refine (cB _ (H.out.later ba1) (H.out.later ba1)).mono ?_
  rintro e w1 ⟨⟨o, k, rfl, hl⟩, hw1⟩
  have HL := Lib.hid hl
  have B1 := Lib.hid (bel1 hw1)
  clear hl hw1 cB
  go_wp2_with (fail)
  refine (c2 _ _ _ HL.out).mono ?_
  rintro e w2 ⟨⟨B, o2, k2, rfl, hB, -⟩, hw2⟩
  have HBs := Lib.hid hB
  have B2 := Lib.hid (B1.out.trans (hw2.mono B1.out.size))
  clear hB hw2 c2
  go_wp2
  go_ret2
  exact ⟨⟨B, HBs.out, rfl⟩, B2.out⟩
/-! ### Certificate and Equivalent -/
/-- no certificate and the error r are answered -/
def NoCe (r : Int) : Value := .tuple #[.agg #[.int .i64 0, .int .i64 0, .int .i64 0, .int .i64 0], .bool false, .int .i64 r]
set_option maxHeartbeats 1600000 in
theorem cert_err (a b c a' b' c' r : Int) (ao bo : Option Addr) (cap cap' : Nat) (L M : List Q) (w : World) (h : LiesO w ao L) (h' : LiesO w bo M) (h0 : r ≠ 0) (cB : ∀ W : World, LiesO W ao L → LiesO W bo M → Calls Try.prog 45 #[.agg #[.int .i64 a, .int .i64 b, .int .i64 c, .slice ao L.length cap], .agg #[.int .i64 a', .int .i64 b', .int .i64 c', .slice bo M.length cap']] W fun e w' => e = .returned (.tuple #[.slice none 0 0, .int .i64 r]) ∧ Below W.heap.size W w') : Calls Try.prog 29 #[.agg #[.int .i64 a, .int .i64 b, .int .i64 c, .slice ao L.length cap], .agg #[.int .i64 a', .int .i64 b', .int .i64 c', .slice bo M.length cap']] w fun e w' => e = .returned (NoCe r) ∧ Below w.heap.size w w' := by
  have H := Lib.hid h
  have H' := Lib.hid h'
  have t0 : (r != 0) = true := by simpa using h0
  clear h h' h0
  have Q0 := Lib.hid (C4.n3c (w := w) (v0 := .int .i64 0) (v1 := .int .i64 0) (v2 := .int .i64 0) (v3 := .int .i64 0) (T := 37) (o := .cells #[.int .i64 a, .int .i64 b, .int .i64 c, .slice ao L.length cap] 25) (p := .cells #[.int .i64 a', .int .i64 b', .int .i64 c', .slice bo M.length cap'] 25))
  go_enter Try.func29, Try.ntmps29
  go_wp2_with (fail)
  refine (cB _ (H.out.later ba3) (H'.out.later ba3)).mono ?_
  rintro e w1 ⟨rfl, hw1⟩
  have Q1 := Lib.hid (Q0.out.later hw1)
  have B1 := bel3 hw1
  clear hw1 Q0
  obtain ⟨q0, q1, q2, q3, qf, ql⟩ := Q1.out
  go_wp2
  refine bodyPost_ret (v := NoCe r) ?_ rfl ⟨rfl, ?_⟩
  · simp [NoCe, results, Try.results29, go_sem, q0, q1, q2, q3]
  · repeat (first | (with_reducible exact Below.refl _ _) | (with_reducible refine Below.setCell ?_ ?_ _) | (with_reducible refine Below.drew ?_) | (with_reducible refine Below.alloc ?_ ?_ _) | (with_reducible refine Below.trans ?_ (Below.mono B1 ?_)) | (with_reducible exact B1.size) | omega | (simp <;> omega) | (simp <;> (have s := B1.size; omega)) | (have s0 := B1.size; (try simp at s0); (try simp); omega))
set_option maxHeartbeats 3200000 in
theorem cert_ok (a b c a' b' c' : Int) (ao bo : Option Addr) (cap cap' : Nat) (L M X Y : List Q) (w : World) (h : LiesO w ao L) (h' : LiesO w bo M) (hX : AllS X) (hY : AllS Y) (hl : Y.length = X.length) (hlen : X.length ≤ 200) (cB : ∀ W : World, LiesO W ao L → LiesO W bo M → Calls Try.prog 45 #[.agg #[.int .i64 a, .int .i64 b, .int .i64 c, .slice ao L.length cap], .agg #[.int .i64 a', .int .i64 b', .int .i64 c', .slice bo M.length cap']] W fun e w' => (∃ (ao : Option Addr) (k : Nat), e = .returned (.tuple #[.slice ao (X.length * 4) k, .int .i64 0]) ∧ LiesOI w' ao (eqL X Y X.length)) ∧ Below W.heap.size W w') : Calls Try.prog 29 #[.agg #[.int .i64 a, .int .i64 b, .int .i64 c, .slice ao L.length cap], .agg #[.int .i64 a', .int .i64 b', .int .i64 c', .slice bo M.length cap']] w fun e w' => (∃ B, BasE X Y B ∧ ((B = [] ∧ e = .returned (NoCe 0)) ∨ ∃ q B', B = q :: B' ∧ e = .returned (.tuple #[.agg #[.int .i64 q.a, .int .i64 q.b, .int .i64 q.c, .int .i64 q.d], .bool true, .int .i64 0]))) ∧ Below w.heap.size w w' := by
  have H := Lib.hid h
  have H' := Lib.hid h'
  have c2 := fun (W : World) (o : Option Addr) (k : Nat) (h : LiesOI W o (eqL X Y X.length)) => sol_of_rows hX hY hl o k W h hlen
  clear h h' hX hY hl hlen
  generalize hn : X.length * 4 = n at *
  clear hn
  have Q0 := Lib.hid (C4.n3c (w := w) (v0 := .int .i64 0) (v1 := .int .i64 0) (v2 := .int .i64 0) (v3 := .int .i64 0) (T := 37) (o := .cells #[.int .i64 a, .int .i64 b, .int .i64 c, .slice ao L.length cap] 25) (p := .cells #[.int .i64 a', .int .i64 b', .int .i64 c', .slice bo M.length cap'] 25))
  go_enter Try.func29, Try.ntmps29
  go_wp2_with (fail)
  refine (cB _ (H.out.later ba3) (H'.out.later ba3)).mono ?_
  rintro e w1 ⟨⟨o, k, rfl, hli⟩, hw1⟩
  have Q1 := Lib.hid (Q0.out.later hw1)
  have B1 := Lib.hid (bel3 hw1)
  have HL := Lib.hid hli
  clear hw1 Q0 cB hli
  go_wp2_with (fail)
  refine (c2 _ _ _ HL.out).mono ?_
  rintro e w2 ⟨⟨B, o2, k2, rfl, hB, hq⟩, hw2⟩
  have Q2 := Lib.hid (Q1.out.later hw2)
  have B2 := Lib.hid (B1.out.trans (hw2.mono B1.out.size))
  have HBs := Lib.hid hB
  have HQ := Lib.hid hq
  clear hw2 Q1 B1 HL hB hq
  obtain ⟨q0, q1, q2, q3, qf, ql⟩ := Q2.out
  cases B with
  | nil =>
    go_wp2
    refine bodyPost_ret (v := NoCe 0) ?_ rfl ⟨⟨[], HBs.out, .inl ⟨rfl, rfl⟩⟩, ?_⟩
    · simp [NoCe, results, Try.results29, go_sem, q0, q1, q2, q3]
    · have B3 := B2.out
      repeat (first | (with_reducible exact Below.refl _ _) | (with_reducible refine Below.setCell ?_ ?_ _) | (with_reducible refine Below.drew ?_) | (with_reducible refine Below.alloc ?_ ?_ _) | (with_reducible refine Below.trans ?_ (Below.mono B3 ?_)) | (with_reducible exact B3.size) | omega | (simp <;> omega) | (simp <;> (have s := B3.size; omega)) | (have s0 := B3.size; (try simp at s0); (try simp); omega))
  | cons q B' =>
    obtain ⟨b, f, rfl, hli⟩ : ∃ b f, o2 = some ⟨b, f, none⟩ ∧ LiesI w2 b f (flq (q :: B')) := by
      rcases HQ.out with h | h
      · have := flq_len (q :: B'); rw [h] at this; simp at this
      · exact h
    obtain ⟨l0, l1, l2, l3⟩ := liesq (i := 0) hli rfl
    have hlb := World.block_lt_of_cell? _ _ l0
    have ib : (0 : Int) < ((q :: B').length : Int) := by simp only [List.length_cons]; omega
    have i0 : ¬ (((q :: B').length : Int) = 0) := by omega
    have i1 : ((((q :: B').length : Int)) == 0) = false := by simpa using i0
    rw [Nat.zero_mul, Nat.add_zero] at l0 l1 l2 l3
    have HLn := Lib.hid hli
    clear hli HQ
    generalize hqb : q :: B' = Bq at *
    have HE := Lib.hid hqb
    clear hqb
    go_wp2
    refine bodyPost_ret (v := .tuple #[.agg #[.int .i64 q.a, .int .i64 q.b, .int .i64 q.c, .int .i64 q.d], .bool true, .int .i64 0]) ?_ rfl ⟨⟨Bq, HBs.out, .inr ⟨q, B', HE.out.symm, rfl⟩⟩, ?_⟩
    · simp [results, Try.results29, go_sem, q0, q1, q2, q3, ql]
    · have B3 := B2.out
      repeat (first | (with_reducible exact Below.refl _ _) | (with_reducible refine Below.setCell ?_ ?_ _) | (with_reducible refine Below.drew ?_) | (with_reducible refine Below.alloc ?_ ?_ _) | (with_reducible refine Below.trans ?_ (Below.mono B3 ?_)) | (with_reducible exact B3.size) | omega | (simp <;> omega) | (simp <;> (have s := B3.size; omega)) | (have s0 := B3.size; (try simp at s0); (try simp); omega))
set_option maxHeartbeats 1600000 in
theorem equiv_err (a b c a' b' c' r : Int) (ao bo : Option Addr) (cap cap' : Nat) (L M : List Q) (w : World) (h : LiesO w ao L) (h' : LiesO w bo M) (cC : ∀ W : World, LiesO W ao L → LiesO W bo M → Calls Try.prog 29 #[.agg #[.int .i64 a, .int .i64 b, .int .i64 c, .slice ao L.length cap], .agg #[.int .i64 a', .int .i64 b', .int .i64 c', .slice bo M.length cap']] W fun e w' => e = .returned (NoCe r) ∧ Below W.heap.size W w') : Calls Try.prog 15 #[.agg #[.int .i64 a, .int .i64 b, .int .i64 c, .slice ao L.length cap], .agg #[.int .i64 a', .int .i64 b', .int .i64 c', .slice bo M.length cap']] w fun e w' => e = .returned (.tuple #[.bool false, .int .i64 r]) ∧ Below w.heap.size w w' := by
  have H := Lib.hid h
  have H' := Lib.hid h'
  clear h h'
  unfold NoCe at cC
  go_enter Try.func15, Try.ntmps15
  go_wp2_with (fail)
  refine (cC _ (H.out.later ba2) (H'.out.later ba2)).mono ?_
  rintro e w1 ⟨rfl, hw1⟩
  have B1 := bel2 hw1
  go_wp2
  go_ret2
  exact ⟨rfl, by repeat (first | (with_reducible exact Below.refl _ _) | (with_reducible refine Below.setCell ?_ ?_ _) | (with_reducible refine Below.drew ?_) | (with_reducible refine Below.alloc ?_ ?_ _) | (with_reducible refine Below.trans ?_ (Below.mono B1 ?_)) | (with_reducible exact B1.size) | omega | (simp <;> omega) | (simp <;> (have s := B1.size; omega)) | (have s0 := B1.size; (try simp at s0); (try simp); omega))⟩
set_option maxHeartbeats 1600000 in
theorem equiv_ok (a b c a' b' c' : Int) (ao bo : Option Addr) (cap cap' : Nat) (L M X Y : List Q) (w : World) (h : LiesO w ao L) (h' : LiesO w bo M) (cC : ∀ W : World, LiesO W ao L → LiesO W bo M → Calls Try.prog 29 #[.agg #[.int .i64 a, .int .i64 b, .int .i64 c, .slice ao L.length cap], .agg #[.int .i64 a', .int .i64 b', .int .i64 c', .slice bo M.length cap']] W fun e w' => (∃ B, BasE X Y B ∧ ((B = [] ∧ e = .returned (NoCe 0)) ∨ ∃ q B', B = q :: B' ∧ e = .returned (.tuple #[.agg #[.int .i64 q.a, .int .i64 q.b, .int .i64 q.c, .int .i64 q.d], .bool true, .int .i64 0]))) ∧ Below W.heap.size W w') : Calls Try.prog 15 #[.agg #[.int .i64 a, .int .i64 b, .int .i64 c, .slice ao L.length cap], .agg #[.int .i64 a', .int .i64 b', .int .i64 c', .slice bo M.length cap']] w fun e w' => (∃ B, BasE X Y B ∧ ((B = [] ∧ e = .returned (.tuple #[.bool false, .int .i64 0])) ∨ (B ≠ [] ∧ e = .returned (.tuple #[.bool true, .int .i64 0])))) ∧ Below w.heap.size w w' := by
  have H := Lib.hid h
  have H' := Lib.hid h'
  clear h h'
  unfold NoCe at cC
  go_enter Try.func15, Try.ntmps15
  go_wp2_with (fail)
  refine (cC _ (H.out.later ba2) (H'.out.later ba2)).mono ?_
  rintro e w1 ⟨⟨B, hB, ⟨h0, rfl⟩ | ⟨q, B', h0, rfl⟩⟩, hw1⟩
  · have B1 := bel2 hw1
    have HB := Lib.hid hB
    have H0 := Lib.hid h0
    clear hB h0
    go_wp2
    go_ret2
    exact ⟨⟨B, HB.out, .inl ⟨H0.out, rfl⟩⟩, by repeat (first | (with_reducible exact Below.refl _ _) | (with_reducible refine Below.setCell ?_ ?_ _) | (with_reducible refine Below.drew ?_) | (with_reducible refine Below.alloc ?_ ?_ _) | (with_reducible refine Below.trans ?_ (Below.mono B1 ?_)) | (with_reducible exact B1.size) | omega | (simp <;> omega) | (simp <;> (have s := B1.size; omega)) | (have s0 := B1.size; (try simp at s0); (try simp); omega))⟩
  · have B1 := bel2 hw1
    have HB := Lib.hid hB
    have H0 := Lib.hid h0
    clear hB h0
    go_wp2
    go_ret2
    exact ⟨⟨B, HB.out, .inr ⟨by rw [H0.out]; simp, rfl⟩⟩, by repeat (first | (with_reducible exact Below.refl _ _) | (with_reducible refine Below.setCell ?_ ?_ _) | (with_reducible refine Below.drew ?_) | (with_reducible refine Below.alloc ?_ ?_ _) | (with_reducible refine Below.trans ?_ (Below.mono B1 ?_)) | (with_reducible exact B1.size) | omega | (simp <;> omega) | (simp <;> (have s := B1.size; omega)) | (have s0 := B1.size; (try simp at s0); (try simp); omega))⟩
end Go.Proofs.Ytojmagooapjohaa
