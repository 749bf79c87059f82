/- Plain facts on a division bit by bit. Nothing of the program. -/
import Derived.Test.YtfecnogmjfmghaaDoorDecK
namespace Go.Proofs.YtfecnogmjfmghaaDoor
set_option linter.unusedSimpArgs false
set_option linter.unusedVariables false
set_option linter.unnecessarySimpa false
open Go.RowKit

def sh1 (r nx : Nat) : Nat := 2 * r + nx / 9223372036854775808
def dbl (q : Nat) : Nat := 2 * q
def dbl1 (q : Nat) : Nat := 2 * q + 1
def shl1 (nx : Nat) : Nat := nx * 2 % 18446744073709551616

theorem or_bit {a c : Nat} (ha : a < 18446744073709551616) (hc : c < 2) : bits .or .u64 (IntKind.u64.wrap ((a : Int) * 2)) (c : Int) = ((a * 2 % 18446744073709551616 + c : Nat) : Int) := by
  rw [show (a : Int) * 2 = ((a * 2 : Nat) : Int) from by push_cast; rfl, wrap_m, bits_or_u64_nat _ _ (by omega) (by omega)]
  have e : a * 2 % 18446744073709551616 = (a % 9223372036854775808) <<< 1 := by rw [Nat.shiftLeft_eq]; omega
  rw [e, ← Nat.shiftLeft_add_eq_or_of_lt (by omega)]
theorem or_hi {r nx : Nat} (hr : r < 170141183460469231731687303715884105728) :
    bits .or .u64 (IntKind.u64.wrap ((hiN r : Int) * 2)) ((loN r : Int) / 9223372036854775808) = ((hiN (sh1 r nx) : Nat) : Int) ∨ ¬ nx < 18446744073709551616 := by
  by_cases hx : nx < 18446744073709551616
  · left
    have h1 := loN_lt r
    have h2 : hiN r < 18446744073709551616 := hiN_lt (by omega)
    rw [show (loN r : Int) / 9223372036854775808 = ((loN r / 9223372036854775808 : Nat) : Int) from by omega, or_bit h2 (by omega)]
    unfold hiN loN sh1
    congr 1
    omega
  · right; exact hx
theorem or_hi' {r nx : Nat} (hr : r < 170141183460469231731687303715884105728) (hx : nx < 18446744073709551616) :
    bits .or .u64 (IntKind.u64.wrap ((hiN r : Int) * 2)) ((loN r : Int) / 9223372036854775808) = ((hiN (sh1 r nx) : Nat) : Int) := by
  rcases or_hi (nx := nx) hr with h | h
  · exact h
  · exact absurd hx h
theorem or_lo {r nx : Nat} (hx : nx < 18446744073709551616) :
    bits .or .u64 (IntKind.u64.wrap ((loN r : Int) * 2)) ((nx : Int) / 9223372036854775808) = ((loN (sh1 r nx) : Nat) : Int) := by
  have h1 := loN_lt r
  rw [show (nx : Int) / 9223372036854775808 = ((nx / 9223372036854775808 : Nat) : Int) from by omega, or_bit h1 (by omega)]
  unfold loN sh1
  congr 1
  omega
theorem w_dbl {q : Nat} (hq : q < 9223372036854775808) : IntKind.u64.wrap ((q : Int) * 2) = ((dbl q : Nat) : Int) := by
  unfold dbl; rw [IntKind.wrap_u64]; omega
theorem w_shl1 (nx : Nat) : IntKind.u64.wrap ((nx : Int) * 2) = ((shl1 nx : Nat) : Int) := by
  unfold shl1; rw [IntKind.wrap_u64]; omega
theorem or_dbl {q : Nat} (hq : q < 9223372036854775808) : bits .or .u64 ((dbl q : Nat) : Int) 1 = ((dbl1 q : Nat) : Int) := by
  have h := or_bit (a := q) (c := 1) (by omega) (by omega)
  rw [w_dbl hq] at h
  rw [show (1 : Int) = ((1 : Nat) : Int) from rfl, h]
  unfold dbl1; omega

def DInv (R X d i r q nx : Nat) : Prop := r < d ∧ q < 2 ^ i ∧ q * d + r = R * 2 ^ i + X / 2 ^ (64 - i) ∧ nx = X * 2 ^ i % 18446744073709551616
theorem dinv_start {R X d : Nat} (hR : R < d) (hX : X < 18446744073709551616) : DInv R X d 0 R 0 X := by
  refine ⟨hR, by decide, ?_, ?_⟩
  · rw [Nat.zero_mul, Nat.zero_add, Nat.pow_zero, Nat.mul_one]
    have : X / 2 ^ (64 - 0) = 0 := Nat.div_eq_of_lt (by simpa using hX)
    rw [this]; rfl
  · rw [Nat.pow_zero, Nat.mul_one, Nat.mod_eq_of_lt hX]
theorem dinv_bits {X i : Nat} (hi : i < 64) (hX : X < 18446744073709551616) :
    X / 2 ^ (64 - (i + 1)) = 2 * (X / 2 ^ (64 - i)) + X * 2 ^ i % 18446744073709551616 / 9223372036854775808 ∧
    shl1 (X * 2 ^ i % 18446744073709551616) = X * 2 ^ (i + 1) % 18446744073709551616 := by
  constructor
  · have e1 : 2 ^ (64 - i) = 2 ^ (64 - (i + 1)) * 2 := by rw [← Nat.pow_succ]; congr 1; omega
    have e2 : 2 ^ (64 - i) * 2 ^ i = 18446744073709551616 := by rw [← Nat.pow_add, show 64 - i + i = 64 from by omega]
    have e3 : 2 ^ (64 - (i + 1)) * 2 ^ i = 9223372036854775808 := by rw [← Nat.pow_add, show 64 - (i + 1) + i = 63 from by omega]
    rw [← e2, Nat.mul_mod_mul_right, ← e3, Nat.mul_div_mul_right _ _ (Nat.two_pow_pos _), e1, Nat.mod_mul_right_div_self, ← Nat.div_div_eq_div_mul]
    omega
  · unfold shl1
    rw [Nat.pow_succ, ← Nat.mul_assoc]
    omega
theorem dinv_step {R X d i r q nx : Nat} (h : DInv R X d i r q nx) (hi : i < 64) (hX : X < 18446744073709551616) :
    (sh1 r nx < d → DInv R X d (i + 1) (sh1 r nx) (dbl q) (shl1 nx)) ∧ (¬ sh1 r nx < d → DInv R X d (i + 1) (sh1 r nx - d) (dbl1 q) (shl1 nx)) := by
  obtain ⟨h1, h2, h3, h4⟩ := h
  obtain ⟨b1, b2⟩ := dinv_bits hi hX
  rw [← h4] at b1 b2
  have hp : (2 : Nat) ^ (i + 1) = 2 * 2 ^ i := by rw [Nat.pow_succ, Nat.mul_comm]
  have hq : nx / 9223372036854775808 ≤ 1 := by rw [h4]; omega
  have e1 : R * (2 * 2 ^ i) = 2 * (R * 2 ^ i) := by rw [Nat.mul_left_comm]
  constructor
  · intro hs
    refine ⟨hs, by unfold dbl; omega, ?_, b2⟩
    rw [hp, e1, b1]
    unfold dbl sh1
    rw [Nat.mul_assoc]
    generalize q * d = A at *
    generalize R * 2 ^ i = B at *
    omega
  · intro hs
    refine ⟨by unfold sh1 at *; omega, by unfold dbl1; omega, ?_, b2⟩
    rw [hp, e1, b1]
    unfold dbl1
    unfold sh1 at *
    rw [Nat.add_mul, Nat.mul_assoc]
    generalize q * d = A at *
    generalize R * 2 ^ i = B at *
    omega
theorem dinv_end {R X d r q nx : Nat} (h : DInv R X d 64 r q nx) : q = (R * 18446744073709551616 + X) / d ∧ r = (R * 18446744073709551616 + X) % d := by
  obtain ⟨h1, h2, h3, h4⟩ := h
  have e : R * 18446744073709551616 + X = q * d + r := by
    rw [h3]; simp
  rw [e, Nat.mul_comm q]
  constructor
  · rw [Nat.mul_add_div (by omega), Nat.div_eq_of_lt h1]; omega
  · rw [Nat.mul_add_mod, Nat.mod_eq_of_lt h1]
theorem dinv_q {R X d i r q nx : Nat} (h : DInv R X d i r q nx) (hi : i < 64) : q < 9223372036854775808 := by
  have h2 := h.2.1
  have : 2 ^ i ≤ 2 ^ 63 := Nat.pow_le_pow_right (by omega) (by omega)
  omega
theorem dinv_nx {R X d i r q nx : Nat} (h : DInv R X d i r q nx) : nx < 18446744073709551616 := by
  rw [h.2.2.2]; omega
end Go.Proofs.YtfecnogmjfmghaaDoor
