/- The operator and the dagger commute, the operator of a sum is the sum (mathematics modulo 2 to the 64).
Conditions: none. -/
import Derived.Test.YtojmagooapjohaaFermM
set_option autoImplicit false
namespace Fm
set_option linter.unusedVariables false
set_option linter.unusedSimpArgs false
open Um Tm Go.RowKit

/-- what arms bring of the values of a function, and of a start -/
def accF (f : Nat → Sp) (t : Sp) (A : List Arm) : Sp := A.foldl (fun t x => addS t (mulS x.q (f x.frm))) t
theorem accS_F (M : List Sp) (A : List Arm) : accS M A = accF (at0 M) zs A := rfl
def linS (m k : Int) (p q : Sp) : Sp := addS (smS m p) (smS k q)
theorem accF_lin (m k : Int) (f g : Nat → Sp) : ∀ (A : List Arm) (t u : Sp), accF (fun s => linS m k (f s) (g s)) (linS m k t u) A = linS m k (accF f t A) (accF g u A)
  | [], t, u => rfl
  | x :: A, t, u => by
    have h : addS (linS m k t u) (mulS x.q (linS m k (f x.frm) (g x.frm))) = linS m k (addS t (mulS x.q (f x.frm))) (addS u (mulS x.q (g x.frm))) := by
      refine ext_S ?_ ?_ ?_ ?_ <;> simp only [linS, addS, smS, mulS] <;> grind
    have ih := accF_lin m k f g A (addS t (mulS x.q (f x.frm))) (addS u (mulS x.q (g x.frm)))
    rw [← h] at ih
    exact ih
theorem accF_w (f g : Nat → Sp) : ∀ (A : List Arm) (t u : Sp), (∀ x, x ∈ A → (f x.frm).w = (g x.frm).w) → t.w = u.w → (accF f t A).w = (accF g u A).w
  | [], _, _, _, h => h
  | x :: A, t, u, hA, h => by
    refine accF_w f g A _ _ (fun y hy => hA y (List.mem_cons_of_mem _ hy)) ?_
    have hx := hA x List.mem_cons_self
    rw [← addS_w_l, h, addS_w_l, ← addS_w_r, ← mulS_w_r, hx, mulS_w_r, addS_w_r]
/-- m times a value and k times its hopping, exact -/
def opE (k m : Int) (A : List Arm) (f : Nat → Sp) (s : Nat) : Sp := linS m k (f s) (accF f zs (row A s))
theorem lin_w {m k : Int} {p q r t : Sp} (h : p.w = r.w) (g : q.w = t.w) : (linS m k p q).w = (linS m k r t).w := by
  unfold linS
  rw [← addS_w_l, ← smS_w, h, smS_w, addS_w_l, ← addS_w_r, ← smS_w, g, smS_w, addS_w_r]
theorem opL_E (k ma : Int) (n : Nat) (A : List Arm) (M : List Sp) : opL k ma n A M = tab n (fun s => (opE k (4 * ma) A (at0 M) s).w) := by
  unfold opL
  refine tab_congr fun s hs => ?_
  unfold axS opE linS
  rw [at0_of (hopL_at A M hs), addS_w_l, ← addS_w_r, smS_w, addS_w_r, accS_F]
  congr 1
  refine ext_S ?_ ?_ ?_ ?_ <;> simp only [addS, smS, zs] <;> grind
/-- all arms come from the first n sites -/
def Frm (n : Nat) (A : List Arm) : Prop := ∀ x, x ∈ A → x.frm < n
theorem opE_w {n : Nat} {k m : Int} {A : List Arm} {f g : Nat → Sp} (hA : Frm n A) (h : ∀ s, s < n → (f s).w = (g s).w) {s : Nat} (hs : s < n) : (opE k m A f s).w = (opE k m A g s).w :=
  lin_w (h s hs) (accF_w f g _ _ _ (fun x hx => h _ (hA x (List.mem_filter.1 hx).1)) rfl)
theorem zs_lin (m k : Int) : linS m k zs zs = zs := by
  refine ext_S ?_ ?_ ?_ ?_ <;> simp only [linS, addS, smS, zs] <;> grind
theorem acc_op (k m : Int) (A B : List Arm) (f : Nat → Sp) : accF (opE k m A f) zs B = linS m k (accF f zs B) (accF (fun s => accF f zs (row A s)) zs B) := by
  have := accF_lin m k f (fun s => accF f zs (row A s)) B zs zs
  rw [zs_lin] at this
  exact this
theorem op_comm (k l m : Int) (A : List Arm) (f : Nat → Sp) (s : Nat) : opE k m A (opE l m A f) s = opE l m A (opE k m A f) s := by
  show linS m k (opE l m A f s) (accF (opE l m A f) zs (row A s)) = linS m l (opE k m A f s) (accF (opE k m A f) zs (row A s))
  rw [acc_op, acc_op]
  unfold opE
  refine ext_S ?_ ?_ ?_ ?_ <;> simp only [linS, addS, smS] <;> grind
theorem opL_comm (k l ma : Int) {n : Nat} {A : List Arm} (hA : Frm n A) (M : List Sp) : opL k ma n A (opL l ma n A M) = opL l ma n A (opL k ma n A M) := by
  rw [opL_E k, opL_E l ma n A (opL k ma n A M)]
  refine tab_congr fun s hs => ?_
  have e : ∀ (j : Int) (t : Nat), t < n → (at0 (opL j ma n A M) t).w = (opE j (4 * ma) A (at0 M) t).w := fun j t ht => by
    rw [opL_E, at0_of (tab_at _ ht), w_w]
  rw [opE_w hA (e l) hs, opE_w hA (e k) hs, op_comm]
/-- the sum of two vectors -/
def plL (n : Nat) (M N : List Sp) : List Sp := tab n (fun s => (addS (at0 M s) (at0 N s)).w)
theorem plL_len (n : Nat) (M N : List Sp) : (plL n M N).length = n := tab_len _ _
theorem lin_one (p q : Sp) : linS 1 1 p q = addS p q := by
  unfold linS; rw [smS_one, smS_one]
theorem op_add (k m : Int) (A : List Arm) (f g : Nat → Sp) (s : Nat) : opE k m A (fun s => addS (f s) (g s)) s = addS (opE k m A f s) (opE k m A g s) := by
  have := accF_lin 1 1 f g (row A s) zs zs
  rw [zs_lin] at this
  simp only [lin_one] at this
  unfold opE
  rw [this]
  refine ext_S ?_ ?_ ?_ ?_ <;> simp only [linS, addS, smS] <;> grind
theorem opL_add (k ma : Int) {n : Nat} {A : List Arm} (hA : Frm n A) (M N : List Sp) : opL k ma n A (plL n M N) = plL n (opL k ma n A M) (opL k ma n A N) := by
  rw [opL_E k ma n A (plL n M N)]
  refine tab_congr fun s hs => ?_
  have e : ∀ t : Nat, t < n → (at0 (plL n M N) t).w = ((fun s => addS (at0 M s) (at0 N s)) t).w := fun t ht => by
    unfold plL; rw [at0_of (tab_at _ ht), w_w]
  rw [opE_w hA e hs, op_add, opL_E k ma n A M, opL_E k ma n A N, at0_of (tab_at _ hs), at0_of (tab_at _ hs), addS_w_l, addS_w_r]
theorem arms_frm {a b c : Int} {n : Nat} (h : Sz a b c) (hn : (n : Int) = a * b * c) (L : List Q) : ∀ k : Nat, k ≤ n * 3 → Frm n (arms a b c L k)
  | 0, _ => fun x hx => by cases hx
  | k + 1, hk => fun x hx => by
    have ht := (nxl_rng h k).2
    have e : arms a b c L (k + 1) = arms a b c L k ++ [arm1 a b c L k] ++ [arm2 a b c L k] := rfl
    rw [e] at hx
    simp only [List.mem_append, List.mem_singleton] at hx
    rcases hx with (hx | rfl) | rfl
    · exact arms_frm h hn L k (by omega) x hx
    · show nxl a b c k < n; omega
    · show k / 3 < n; omega
end Fm
