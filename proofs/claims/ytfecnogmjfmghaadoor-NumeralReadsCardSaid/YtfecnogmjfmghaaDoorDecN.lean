/- Plain facts on products and quotients of limbs. Nothing of the program. -/
import Derived.Test.YtfecnogmjfmghaaDoorDecM
import Derived.Lib.Mul64
namespace Go.Proofs.YtfecnogmjfmghaaDoor
set_option linter.unusedSimpArgs false
set_option linter.unusedVariables false
set_option linter.unnecessarySimpa false
open Go.RowKit

def mulH (x y : Nat) : Nat := x * y / 18446744073709551616
def mulL (x y : Nat) : Nat := x * y % 18446744073709551616
def apLo (p q x y : Nat) : Nat := (p + q + x * y) % 18446744073709551616
def apHi (p q x y : Nat) : Nat := (p + q + x * y) / 18446744073709551616

theorem mul_bound {x y : Nat} (hx : x < 18446744073709551616) (hy : y < 18446744073709551616) : x * y ≤ 340282366920938463426481119284349108225 :=
  Nat.mul_le_mul (Nat.le_of_lt_succ hx) (Nat.le_of_lt_succ hy)
theorem ap_lo (p q x y : Nat) : addS (addS (mulL x y) p 0) q 0 = apLo p q x y := by
  unfold addS mulL apLo
  generalize x * y = P
  omega
theorem ap_hi {p q x y : Nat} (hp : p < 18446744073709551616) (hq : q < 18446744073709551616) (hx : x < 18446744073709551616) (hy : y < 18446744073709551616) :
    IntKind.u64.wrap (IntKind.u64.wrap ((mulH x y : Nat) + (addC (mulL x y) p 0 : Nat) : Int) + (addC (addS (mulL x y) p 0) q 0 : Nat)) = ((apHi p q x y : Nat) : Int) := by
  have := mul_bound hx hy
  simp only [IntKind.wrap_u64]
  unfold addS addC mulL mulH apHi
  generalize x * y = P at *
  omega
theorem apLo_lt (p q x y : Nat) : apLo p q x y < 18446744073709551616 := by unfold apLo; omega
theorem apHi_lt {p q x y : Nat} (hp : p < 18446744073709551616) (hq : q < 18446744073709551616) (hx : x < 18446744073709551616) (hy : y < 18446744073709551616) : apHi p q x y < 18446744073709551616 := by
  have := mul_bound hx hy
  unfold apHi
  generalize x * y = P at *
  omega

theorem prod_limbs {m k : Nat} (hm : m < 340282366920938463463374607431768211456) (hk : k < 340282366920938463463374607431768211456) :
    ∃ A B C D : Nat, m * k = D * 340282366920938463463374607431768211456 + (C + B) * 18446744073709551616 + A ∧
      A = loN m * loN k ∧ B = loN m * hiN k ∧ C = hiN m * loN k ∧ D = hiN m * hiN k ∧
      A ≤ 340282366920938463426481119284349108225 ∧ B ≤ 340282366920938463426481119284349108225 ∧ C ≤ 340282366920938463426481119284349108225 ∧ D ≤ 340282366920938463426481119284349108225 := by
  refine ⟨_, _, _, _, ?_, rfl, rfl, rfl, rfl, mul_bound (loN_lt _) (loN_lt _), mul_bound (loN_lt _) (hiN_lt hk), mul_bound (hiN_lt hm) (loN_lt _), mul_bound (hiN_lt hm) (hiN_lt hk)⟩
  have h := Lib.split_mul (hiN m) (loN m) (hiN k) (loN k) 18446744073709551616
  rw [hilo, hilo] at h
  exact h

/-- The limbs of a product, as the loops make them. -/
theorem prod_l0 {m k : Nat} (hm : m < 340282366920938463463374607431768211456) (hk : k < 340282366920938463463374607431768211456) :
    apLo 0 0 (loN m) (loN k) = l0 (m * k) := by
  obtain ⟨A, B, C, D, h, hA, hB, hC, hD, bA, bB, bC, bD⟩ := prod_limbs hm hk
  rw [h]; unfold apLo l0; rw [← hA]; omega
theorem prod_l1 {m k : Nat} (hm : m < 340282366920938463463374607431768211456) (hk : k < 340282366920938463463374607431768211456) :
    apLo (apLo 0 (apHi 0 0 (loN m) (loN k)) (loN m) (hiN k)) 0 (hiN m) (loN k) = l1 (m * k) := by
  obtain ⟨A, B, C, D, h, hA, hB, hC, hD, bA, bB, bC, bD⟩ := prod_limbs hm hk
  rw [h]; unfold apLo apHi l1; rw [← hA, ← hB, ← hC]; omega
theorem prod_l2 {m k : Nat} (hm : m < 340282366920938463463374607431768211456) (hk : k < 340282366920938463463374607431768211456) :
    apLo (apHi 0 (apHi 0 0 (loN m) (loN k)) (loN m) (hiN k)) (apHi (apLo 0 (apHi 0 0 (loN m) (loN k)) (loN m) (hiN k)) 0 (hiN m) (loN k)) (hiN m) (hiN k) = l2 (m * k) := by
  obtain ⟨A, B, C, D, h, hA, hB, hC, hD, bA, bB, bC, bD⟩ := prod_limbs hm hk
  rw [h]; unfold apLo apHi l2; rw [← hA, ← hB, ← hC, ← hD]; omega
theorem prod_l3 {m k : Nat} (hm : m < 340282366920938463463374607431768211456) (hk : k < 340282366920938463463374607431768211456) :
    apHi (apHi 0 (apHi 0 0 (loN m) (loN k)) (loN m) (hiN k)) (apHi (apLo 0 (apHi 0 0 (loN m) (loN k)) (loN m) (hiN k)) 0 (hiN m) (loN k)) (hiN m) (hiN k) = l3 (m * k) := by
  obtain ⟨A, B, C, D, h, hA, hB, hC, hD, bA, bB, bC, bD⟩ := prod_limbs hm hk
  rw [h]; unfold apLo apHi l3; rw [← hA, ← hB, ← hC, ← hD]; omega
end Go.Proofs.YtfecnogmjfmghaaDoor
