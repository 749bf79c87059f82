/- The walk of CharsetNots. -/
import Derived.Test.YtgigapmoooaaoaaSetO
namespace Go.Proofs.Ytgigapmoooaaoaa
set_option linter.unusedSimpArgs false
set_option linter.unusedVariables false
set_option linter.unnecessarySimpa false
open Go.RowKit

/-! The expression with ^ in front runs as the one without, a place further. -/
theorem getD_cc (x y : UInt8) (r : List UInt8) {k : Nat} (h : 1 ≤ k) : (x :: y :: r).getD (k + 1) 0 = (x :: r).getD k 0 := by
  obtain ⟨m, rfl⟩ : ∃ m, k = m + 1 := ⟨k - 1, by omega⟩
  simp
theorem drop_cc (x y : UInt8) (r : List UInt8) {k : Nat} (h : 1 ≤ k) : (x :: y :: r).drop (k + 1) = (x :: r).drop k := by
  obtain ⟨m, rfl⟩ : ∃ m, k = m + 1 := ⟨k - 1, by omega⟩
  simp
theorem isL_cc (x y c : UInt8) (r : List UInt8) {k : Nat} (h : 1 ≤ k) : isL (x :: y :: r) (k + 1) c = isL (x :: r) k c := by
  unfold isL
  rw [getD_cc x y r h]
  congr 1
  exact decide_eq_decide.2 (by simp)
theorem begL_cc (x y c d : UInt8) (r : List UInt8) {k : Nat} (h : 1 ≤ k) : begL (x :: y :: r) (k + 1) c d = begL (x :: r) k c d := by
  unfold begL
  rw [isL_cc x y c r h, isL_cc x y d r (by omega)]
theorem goesL_cc (x y : UInt8) (r : List UInt8) {k : Nat} (h : 1 ≤ k) : goesL (x :: y :: r) (k + 1) = goesL (x :: r) k := by
  unfold goesL
  rw [isL_cc x y 45 r h, getD_cc x y r (by omega : 1 ≤ k + 1)]
  congr 2
  exact decide_eq_decide.2 (by simp)
theorem letL_cc (x y : UInt8) (r : List UInt8) {k : Nat} (h : 1 ≤ k) : letL (x :: y :: r) (k + 1) = (letL (x :: r) k).map (fun z => (z.1, z.2 + 1)) := by
  unfold letL
  rw [getD_cc x y r h, getD_cc x y r (by omega : 1 ≤ k + 1)]
  have e : (x :: y :: r).length = (x :: r).length + 1 := rfl
  rw [e]
  by_cases h1 : k < (x :: r).length ∧ (x :: r).getD k 0 ≠ 92
  · rw [if_pos h1, if_pos ⟨by omega, h1.2⟩]; rfl
  · rw [if_neg h1, if_neg (fun h2 => h1 ⟨by omega, h2.2⟩)]
    by_cases h2 : k + 1 < (x :: r).length
    · rw [if_pos h2, if_pos (by omega)]; rfl
    · rw [if_neg h2, if_neg (by omega)]; rfl
def upR : MR → MR
  | .ok p n => .ok p (n + 1)
  | .bad a c => .bad (a + 1) c
theorem clasM_cc (x y : UInt8) (r : List UInt8) {k : Nat} (h : 1 ≤ k) : clasM (x :: y :: r) (k + 1) = upR (clasM (x :: r) k) := by
  unfold clasM
  rw [show k + 1 + 2 = (k + 2) + 1 by omega, drop_cc x y r (by omega : 1 ≤ k + 2)]
  by_cases h1 : Lib.index ((x :: r).drop (k + 2)) [58, 93] < 0
  · rw [if_pos h1, if_pos h1]; rfl
  · rw [if_neg h1, if_neg h1]
    cases clsL (((x :: r).drop (k + 2)).take (Lib.index ((x :: r).drop (k + 2)) [58, 93]).toNat) with
    | none => rfl
    | some p => simp only [upR]; congr 1; omega
theorem memM_cc (x y : UInt8) (r : List UInt8) {k : Nat} (h : 1 ≤ k) : memM (x :: y :: r) (k + 1) = upR (memM (x :: r) k) := by
  unfold memM
  rw [begL_cc x y 91 58 r h]
  by_cases h1 : begL (x :: r) k 91 58 = true
  · rw [if_pos h1, if_pos h1, clasM_cc x y r h]
  · rw [if_neg h1, if_neg h1, letL_cc x y r h]
    cases h2 : letL (x :: r) k with
    | none => rfl
    | some z =>
      obtain ⟨f, n⟩ := z
      have hn := (letL_le h2).1
      simp only [Option.map_some]
      rw [goesL_cc x y r (by omega : 1 ≤ n)]
      by_cases h3 : goesL (x :: r) n = false
      · rw [if_pos h3, if_pos h3]; rfl
      · rw [if_neg h3, if_neg h3, begL_cc x y 91 58 r (by omega : 1 ≤ n + 1)]
        by_cases h4 : begL (x :: r) (n + 1) 91 58 = true
        · rw [if_pos h4, if_pos h4]; rfl
        · rw [if_neg h4, if_neg h4, letL_cc x y r (by omega : 1 ≤ n + 1)]
          cases h5 : letL (x :: r) (n + 1) with
          | none => rfl
          | some z =>
            obtain ⟨t, m⟩ := z
            simp only [Option.map_some]
            by_cases h6 : t.toNat < f.toNat
            · rw [if_pos h6, if_pos h6]; rfl
            · rw [if_neg h6, if_neg h6]; rfl
theorem runB_cc (x y : UInt8) (r : List UInt8) {k : Nat} {f : Bool} {p : Nat → Bool} {R : MR} (hr : RunB (x :: r) k f p R) : 1 ≤ k → RunB (x :: y :: r) (k + 1) f p (upR R) := by
  induction hr with
  | stop k p hs => intro h; exact .stop (k + 1) p (by rw [isL_cc x y 93 r h]; exact hs)
  | bad k f p a c hf hm => intro h; exact .bad (k + 1) f p (a + 1) c (by rw [isL_cc x y 93 r h]; exact hf) (by rw [memM_cc x y r h, hm]; rfl)
  | step k f p q n R hf hm _ ih => intro h; exact .step (k + 1) f p q (n + 1) _ (by rw [isL_cc x y 93 r h]; exact hf) (by rw [memM_cc x y r h, hm]; rfl) (ih (by have := memM_adv hm; omega))

end Go.Proofs.Ytgigapmoooaaoaa
