/- Plain facts on signs, products and quotients of whole numbers. Nothing of the program. -/
import Derived.Test.YtfecnogmjfmghaaDoorDecM
namespace Go.Proofs.YtfecnogmjfmghaaDoor
set_option linter.unusedSimpArgs false
set_option linter.unusedVariables false
set_option linter.unnecessarySimpa false
open Go.RowKit

theorem negZ_neg (x : Int) (h : x ≠ 0) : negZ (-x) = !negZ x := by
  unfold negZ; rw [← decide_not, decide_eq_decide]; omega
theorem negZ_mul {x y : Int} (h : x * y ≠ 0) : negZ (x * y) = (negZ x != negZ y) := by
  have hx : x ≠ 0 := by rintro rfl; simp at h
  have hy : y ≠ 0 := by rintro rfl; simp at h
  unfold negZ
  by_cases h1 : x < 0 <;> by_cases h2 : y < 0
  · have := Int.mul_pos_of_neg_of_neg h1 h2
    simp [h1, h2]; omega
  · have := Int.mul_neg_of_neg_of_pos h1 (show 0 < y by omega)
    simp [h1, h2, this]
  · have := Int.mul_neg_of_pos_of_neg (show 0 < x by omega) h2
    simp [h1, h2, this]
  · have := Int.mul_pos (show 0 < x by omega) (show 0 < y by omega)
    simp [h1, h2]; omega
theorem tdiv_sign {z k : Int} (h : z.tdiv k ≠ 0) : negZ (z.tdiv k) = (negZ z != negZ k) := by
  have hk : k ≠ 0 := by rintro rfl; simp at h
  have hz : z ≠ 0 := by rintro rfl; simp at h
  have e := Int.mul_tdiv_add_tmod z k
  have hm : (z.tmod k).natAbs < k.natAbs := by rw [Int.natAbs_tmod]; exact Nat.mod_lt _ (by omega)
  have hprod : k * z.tdiv k ≠ 0 := Int.mul_ne_zero hk h
  have s := negZ_mul hprod
  have big : k.natAbs ≤ (k * z.tdiv k).natAbs := by
    rw [Int.natAbs_mul]; exact Nat.le_mul_of_pos_right _ (by omega)
  have same : negZ (k * z.tdiv k) = negZ z := by
    unfold negZ; rw [decide_eq_decide]; omega
  rw [same] at s
  rw [s]; cases negZ k <;> cases negZ (z.tdiv k) <;> rfl
theorem tmod_sign {z k : Int} (h : z.tmod k ≠ 0) : negZ (z.tmod k) = negZ z := by
  unfold negZ; rw [decide_eq_decide]
  by_cases h1 : 0 ≤ z
  · have := Int.tmod_nonneg k h1; omega
  · have h2 : (-z).tmod k = -(z.tmod k) := Int.neg_tmod z k
    have := Int.tmod_nonneg k (show 0 ≤ -z by omega); omega
theorem negZ_nat (n : Nat) : negZ (n : Int) = false := by unfold negZ; simp
theorem million_hi : ((hiN 1000000 : Nat) : Int) = 0 := by unfold hiN; rfl
theorem million_lo : ((loN 1000000 : Nat) : Int) = 1000000 := by unfold loN; rfl

theorem mul_abs (x y : Int) : ((x * y).tdiv 1000000).natAbs = x.natAbs * y.natAbs / 1000000 := by
  rw [Int.natAbs_tdiv, Int.natAbs_mul]; rfl
theorem mul_sgn {x y : Int} (h : x.natAbs * y.natAbs / 1000000 ≠ 0) : (negZ x != negZ y) = negZ ((x * y).tdiv 1000000) := by
  have h1 : (x * y).tdiv 1000000 ≠ 0 := by rw [← mul_abs] at h; omega
  have h2 : x * y ≠ 0 := by intro e; rw [e] at h1; simp at h1
  rw [tdiv_sign h1, negZ_mul h2]
  have : negZ 1000000 = false := rfl
  rw [this]; simp
theorem div_abs (x y : Int) : ((x * 1000000).tdiv y).natAbs = x.natAbs * 1000000 / y.natAbs := by
  rw [Int.natAbs_tdiv, Int.natAbs_mul]; rfl
theorem div_sgn {x y : Int} (h : x.natAbs * 1000000 / y.natAbs ≠ 0) : (negZ x != negZ y) = negZ ((x * 1000000).tdiv y) := by
  have h1 : (x * 1000000).tdiv y ≠ 0 := by rw [← div_abs] at h; omega
  have h2 : x * 1000000 ≠ 0 := by intro e; rw [e] at h1; simp at h1
  rw [tdiv_sign h1, negZ_mul h2]
  have : negZ 1000000 = false := rfl
  rw [this]; simp
theorem prod_bound {a b : Nat} (ha : a < topN) (hb : b < topN) : a * b < 115792089237316195423570985008687907853269984665640564039457584007913129639936 := by
  rw [topN_eq] at ha hb
  have := Nat.mul_le_mul (Nat.le_of_lt ha) (Nat.le_of_lt hb)
  omega
end Go.Proofs.YtfecnogmjfmghaaDoor
