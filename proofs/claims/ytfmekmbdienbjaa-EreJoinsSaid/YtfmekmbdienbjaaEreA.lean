/- Layer 4, plain: parts as trees, numbers and signs of an expression, how an expression is read. -/
import Derived.Test.YtfmekmbdienbjaaSetM
namespace Go.Proofs.Ytfmekmbdienbjaa
set_option linter.unusedSimpArgs false
set_option linter.unusedVariables false
set_option linter.unnecessarySimpa false
open Go.RowKit

/-- A part: its kind, its set, its bounds, its parts. -/
inductive PT where
  | node (k : Nat) (p : Nat → Bool) (a b : Int) (l : List PT)
/-- At most f digits at a place: their number, and the place behind. -/
def numK (l : List UInt8) : Nat → Nat → Nat → Nat × Nat
  | 0, k, v => (v, k)
  | f + 1, k, v => if k < l.length ∧ 48 ≤ (l.getD k 0).toNat ∧ (l.getD k 0).toNat ≤ 57 then numK l f (k + 1) (10 * v + ((l.getD k 0).toNat - 48)) else (v, k)
def numL (l : List UInt8) (k : Nat) : Nat × Nat := numK l 3 k 0
theorem numK_le (l : List UInt8) : ∀ (f k v : Nat), k ≤ (numK l f k v).2 ∧ (numK l f k v).2 ≤ k + f ∧ (k ≤ l.length → (numK l f k v).2 ≤ l.length) ∧ (numK l f k v).1 + 1 ≤ (v + 1) * 10 ^ f
  | 0, k, v => ⟨Nat.le_refl _, Nat.le_refl _, id, by simp [numK]⟩
  | f + 1, k, v => by
    unfold numK
    split
    · rename_i h
      obtain ⟨h1, h2, h3, h4⟩ := numK_le l f (k + 1) (10 * v + ((l.getD k 0).toNat - 48))
      refine ⟨by omega, by omega, fun _ => h3 h.1, Nat.le_trans h4 ?_⟩
      rw [Nat.pow_succ, Nat.mul_comm (10 ^ f) 10, ← Nat.mul_assoc]
      exact Nat.mul_le_mul_right _ (by omega)
    · refine ⟨Nat.le_refl _, by omega, id, ?_⟩
      have h10 : 0 < 10 ^ (f + 1) := Nat.pow_pos (by omega)
      show v + 1 ≤ (v + 1) * 10 ^ (f + 1)
      exact Nat.le_mul_of_pos_right _ h10
theorem numL_le (l : List UInt8) (k : Nat) (hk : k ≤ l.length) : k ≤ (numL l k).2 ∧ (numL l k).2 ≤ k + 3 ∧ (numL l k).2 ≤ l.length ∧ (numL l k).1 ≤ 999 := by
  have h := numK_le l 3 k 0
  unfold numL
  exact ⟨h.1, h.2.1, h.2.2.1 hk, by have := h.2.2.2; simp at this; omega⟩
theorem isL_fin {l : List UInt8} {k : Nat} (h : l.length ≤ k) (c : UInt8) : isL l k c = false := by unfold isL; rw [decide_eq_false (by omega), Bool.false_and]
/-- What stands behind an atom: nothing, an interval that may not be, or bounds and the place behind. -/
inductive SR where
  | none
  | bad
  | some (a b : Int) (n : Nat)
def boundsB (a b : Int) : Bool := decide (0 ≤ a) && decide (a ≤ 255) && (decide (b = -1) || decide (a ≤ b) && decide (b ≤ 255))
def endI (l : List UInt8) (a b : Int) (k : Nat) : SR := if isL l k 125 = true then (if boundsB a b = true then .some a b (k + 1) else .bad) else .none
/-- The interval at a place, by how numbers are read. -/
def itvF (f : Nat → Nat × Nat) (l : List UInt8) (k : Nat) : SR :=
  if (f (k + 1)).2 = k + 1 then .none
  else if isL l (f (k + 1)).2 44 = true then
    endI l (f (k + 1)).1 (if (f ((f (k + 1)).2 + 1)).2 = (f (k + 1)).2 + 1 then -1 else (f ((f (k + 1)).2 + 1)).1) (f ((f (k + 1)).2 + 1)).2
  else endI l (f (k + 1)).1 (f (k + 1)).1 (f (k + 1)).2
def itvL (l : List UInt8) (k : Nat) : SR := itvF (numL l) l k
def signL (l : List UInt8) (k : Nat) : SR :=
  if isL l k 43 = true then .some 1 (-1) (k + 1)
  else if isL l k 42 = true then .some 0 (-1) (k + 1)
  else if isL l k 63 = true then .some 0 1 (k + 1)
  else if isL l k 123 = true then itvL l k
  else .none
theorem endI_some {l : List UInt8} {a b : Int} {k : Nat} {x y : Int} {n : Nat} (h : endI l a b k = .some x y n) : x = a ∧ y = b ∧ n = k + 1 ∧ k < l.length ∧ boundsB a b = true := by
  unfold endI at h
  split at h
  · rename_i h1
    split at h
    · rename_i h2
      injection h with e1 e2 e3
      exact ⟨e1.symm, e2.symm, e3.symm, (isL_lt h1).1, h2⟩
    · cases h
  · cases h
theorem itvF_some {f : Nat → Nat × Nat} {l : List UInt8} (hf : ∀ n, n ≤ l.length → n ≤ (f n).2) {k : Nat} {x y : Int} {n : Nat} (hk : k < l.length) (h : itvF f l k = .some x y n) : k < n ∧ n ≤ l.length ∧ boundsB x y = true := by
  have h1 := hf (k + 1) hk
  unfold itvF at h
  split at h
  · cases h
  · split at h
    · rename_i hc
      have h2 := hf ((f (k + 1)).2 + 1) (isL_lt hc).1
      obtain ⟨rfl, rfl, rfl, h3, h4⟩ := endI_some h
      exact ⟨by omega, by omega, h4⟩
    · obtain ⟨rfl, rfl, rfl, h3, h4⟩ := endI_some h
      exact ⟨by omega, by omega, h4⟩
theorem itvL_some {l : List UInt8} {k : Nat} {x y : Int} {n : Nat} (hk : k < l.length) (h : itvL l k = .some x y n) : k < n ∧ n ≤ l.length ∧ boundsB x y = true :=
  itvF_some (fun n hn => (numL_le l n hn).1) hk h
theorem signL_some {l : List UInt8} {k : Nat} {x y : Int} {n : Nat} (h : signL l k = .some x y n) : k < n ∧ n ≤ l.length ∧ boundsB x y = true := by
  unfold signL at h
  split at h
  · rename_i h1; injection h with e1 e2 e3; subst e1 e2 e3; exact ⟨by omega, (isL_lt h1).1, rfl⟩
  · split at h
    · rename_i h1; injection h with e1 e2 e3; subst e1 e2 e3; exact ⟨by omega, (isL_lt h1).1, rfl⟩
    · split at h
      · rename_i h1; injection h with e1 e2 e3; subst e1 e2 e3; exact ⟨by omega, (isL_lt h1).1, rfl⟩
      · split at h
        · rename_i h1; exact itvL_some (isL_lt h1).1 h
        · cases h

/-- What reading tells: a part and the place behind it, or what is wrong, and where. -/
inductive ER where
  | ok (t : PT) (n : Nat)
  | bad (a c : Nat)
/-- What is being read: branches (those that are read), pieces, the signs behind an atom, an atom. -/
inductive NT where
  | exp (k o : Nat) (acc : List PT)
  | bra (k o : Nat) (acc : List PT)
  | pie (k o : Nat) (t : PT) (s : Nat)
  | atm (k o : Nat)
def together (k : Nat) : List PT → PT
  | [] => .node 0 nonP 0 0 []
  | [t] => t
  | l => .node k nonP 0 0 l
def setT (p : Nat → Bool) : PT := .node 1 p 0 0 []
/-- Does a branch end at a place? -/
def endB (l : List UInt8) (k : Nat) : Bool := decide (l.length ≤ k) || isL l k 124 || isL l k 41
def ofMR (l : List UInt8) (k : Nat) : MR → ER
  | .ok p n => .ok (setT (turnP (isL l (k + 1) 94) p)) (n + 1)
  | .bad a c => .bad a c
def allP : Nat → Bool := fun x => !nonP x
/-- The atom at a place, but a ( and a [. -/
def plainA (l : List UInt8) (k : Nat) : ER :=
  if isL l k 42 = true ∨ isL l k 43 = true ∨ isL l k 63 = true then .bad k 4
  else if isL l k 92 = true then (if k + 1 = l.length then .bad l.length 7 else .ok (setT (rngP (escU (l.getD (k + 1) 0)).toNat (escU (l.getD (k + 1) 0)).toNat)) (k + 2))
  else if isL l k 46 = true then .ok (setT allP) (k + 1)
  else if isL l k 94 = true then .ok (.node 5 nonP 0 0 []) (k + 1)
  else if isL l k 36 = true then .ok (.node 6 nonP 0 0 []) (k + 1)
  else .ok (setT (rngP (l.getD k 0).toNat (l.getD k 0).toNat)) (k + 1)
inductive RunE (l : List UInt8) : NT → ER → Prop where
  | expBad (k o : Nat) (acc : List PT) (a c : Nat) : RunE l (.bra k o []) (.bad a c) → RunE l (.exp k o acc) (.bad a c)
  | expEnd (k o : Nat) (acc : List PT) (t : PT) (n : Nat) : RunE l (.bra k o []) (.ok t n) → isL l n 124 = false → RunE l (.exp k o acc) (.ok (together 3 (acc ++ [t])) n)
  | expOr (k o : Nat) (acc : List PT) (t : PT) (n : Nat) (R : ER) : RunE l (.bra k o []) (.ok t n) → isL l n 124 = true → RunE l (.exp (n + 1) o (acc ++ [t])) R → RunE l (.exp k o acc) R
  | braEnd (k o : Nat) (acc : List PT) : endB l k = true → RunE l (.bra k o acc) (.ok (together 2 acc) k)
  | braBad (k o : Nat) (acc : List PT) (a c : Nat) : endB l k = false → RunE l (.atm k o) (.bad a c) → RunE l (.bra k o acc) (.bad a c)
  | braSgn (k o : Nat) (acc : List PT) (t : PT) (n a c : Nat) : endB l k = false → RunE l (.atm k o) (.ok t n) → RunE l (.pie n o t 0) (.bad a c) → RunE l (.bra k o acc) (.bad a c)
  | braOn (k o : Nat) (acc : List PT) (t t' : PT) (n n' : Nat) (R : ER) : endB l k = false → RunE l (.atm k o) (.ok t n) → RunE l (.pie n o t 0) (.ok t' n') → RunE l (.bra n' o (acc ++ [t'])) R → RunE l (.bra k o acc) R
  | pieEnd (k o : Nat) (t : PT) (s : Nat) : signL l k = .none → RunE l (.pie k o t s) (.ok t k)
  | pieBad (k o : Nat) (t : PT) (s : Nat) : signL l k = .bad → RunE l (.pie k o t s) (.bad k 5)
  | pieDeep (k o : Nat) (t : PT) (a b : Int) (n : Nat) : signL l k = .some a b n → RunE l (.pie k o t 8) (.bad k 6)
  | pieOn (k o : Nat) (t : PT) (s : Nat) (a b : Int) (n : Nat) (R : ER) : signL l k = .some a b n → s ≠ 8 → RunE l (.pie n o (.node 4 nonP a b [t]) (s + 1)) R → RunE l (.pie k o t s) R
  | atmDeep (k : Nat) : isL l k 40 = true → RunE l (.atm k 64) (.bad k 6)
  | atmBad (k o a c : Nat) : isL l k 40 = true → o ≠ 64 → RunE l (.exp (k + 1) (o + 1) []) (.bad a c) → RunE l (.atm k o) (.bad a c)
  | atmOpen (k o : Nat) (t : PT) (n : Nat) : isL l k 40 = true → o ≠ 64 → RunE l (.exp (k + 1) (o + 1) []) (.ok t n) → isL l n 41 = false → RunE l (.atm k o) (.bad l.length 7)
  | atmOk (k o : Nat) (t : PT) (n : Nat) : isL l k 40 = true → o ≠ 64 → RunE l (.exp (k + 1) (o + 1) []) (.ok t n) → isL l n 41 = true → RunE l (.atm k o) (.ok t (n + 1))
  | atmSet (k o : Nat) (R : MR) : isL l k 91 = true → RunB l (begB l k) true nonP R → RunE l (.atm k o) (ofMR l k R)
  | atmOne (k o : Nat) : k < l.length → isL l k 40 = false → isL l k 91 = false → RunE l (.atm k o) (plainA l k)
end Go.Proofs.Ytfmekmbdienbjaa
