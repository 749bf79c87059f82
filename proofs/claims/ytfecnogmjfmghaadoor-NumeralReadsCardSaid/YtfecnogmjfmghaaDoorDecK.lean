/- Plain facts on the division of two limbs by one (Knuth's). Nothing of the program. -/
import Derived.Test.YtfecnogmjfmghaaDoorDecM
import Derived.Lib.BitFns
import Derived.Laws.Bits64b
namespace Go.Proofs.YtfecnogmjfmghaaDoor
set_option linter.unusedSimpArgs false
set_option linter.unusedVariables false
set_option linter.unnecessarySimpa false
open Go.RowKit

def lzN (y : Nat) : Nat := 64 - Lib.bitLen y
theorem bitLen_spec (n : Nat) : n ≠ 0 → n < 2 ^ 64 → 1 ≤ Lib.bitLen n ∧ 2 ^ (Lib.bitLen n - 1) ≤ n ∧ n < 2 ^ Lib.bitLen n := by
  induction n using Nat.strongRecOn with
  | ind n ih =>
    intro h0 h
    by_cases h1 : n = 1
    · subst h1; decide
    · have := ih (n / 2) (by omega) (by omega) (by omega)
      rw [Lib.bitLen_half n h0 h]
      obtain ⟨a, b, c⟩ := this
      refine ⟨by omega, ?_, ?_⟩
      · rw [show 1 + Lib.bitLen (n / 2) - 1 = (Lib.bitLen (n / 2) - 1) + 1 from by omega, Nat.pow_succ]; omega
      · rw [Nat.add_comm, Nat.pow_succ]; omega
def vN (y : Nat) : Nat := y * 2 ^ lzN y
theorem lz_spec {y : Nat} (h0 : 0 < y) (h : y < 18446744073709551616) : lzN y ≤ 63 ∧ 9223372036854775808 ≤ vN y ∧ vN y < 18446744073709551616 := by
  obtain ⟨a, b, c⟩ := bitLen_spec y (by omega) (by omega)
  have d := Lib.bitLen_le y 64 (by omega) (by omega)
  unfold vN lzN
  generalize Lib.bitLen y = L at *
  have e1 : 2 ^ (L - 1) * 2 ^ (64 - L) = 9223372036854775808 := by rw [← Nat.pow_add, show L - 1 + (64 - L) = 63 from by omega]
  have e2 : 2 ^ L * 2 ^ (64 - L) = 18446744073709551616 := by rw [← Nat.pow_add, show L + (64 - L) = 64 from by omega]
  have p : 0 < 2 ^ (64 - L) := Nat.two_pow_pos _
  refine ⟨by omega, ?_, ?_⟩
  · rw [← e1]; exact Nat.mul_le_mul_right _ b
  · rw [← e2]; exact Nat.mul_lt_mul_of_pos_right c p

def uH (hi lo y : Nat) : Nat := hi * 2 ^ lzN y + lo / 2 ^ (64 - lzN y)
def uL (lo y : Nat) : Nat := lo * 2 ^ lzN y % 18446744073709551616
def top32 (a : Nat) : Nat := a / 4294967296
def low32 (a : Nat) : Nat := a % 4294967296

theorem wrap_u {a : Nat} (h : a < 18446744073709551616) : IntKind.u64.wrap (a : Int) = (a : Int) := by rw [IntKind.wrap_u64]; omega
theorem wrap_m (a : Nat) : IntKind.u64.wrap (a : Int) = ((a % 18446744073709551616 : Nat) : Int) := by rw [IntKind.wrap_u64]; omega
theorem wrap_s {s : Nat} (h : s ≤ 63) : min (IntKind.u64.wrap (s : Int)).toNat 64 = s := by rw [wrap_u (by omega)]; omega
theorem wrap_64s {s : Nat} (h : s ≤ 63) : min (IntKind.u64.wrap (64 - IntKind.u64.wrap (s : Int))).toNat 64 = 64 - s := by
  rw [wrap_u (by omega), IntKind.wrap_u64]; omega
theorem cast_shl (a s : Nat) : (a : Int) * 2 ^ s = ((a * 2 ^ s : Nat) : Int) := by push_cast; rfl
theorem cast_shr (a s : Nat) : (a : Int) / 2 ^ s = ((a / 2 ^ s : Nat) : Int) := by push_cast; rfl

theorem sh_v {y : Nat} (h0 : 0 < y) (h : y < 18446744073709551616) :
    IntKind.u64.wrap ((y : Int) * 2 ^ min (IntKind.u64.wrap (lzN y : Int)).toNat 64) = ((vN y : Nat) : Int) := by
  obtain ⟨a, b, c⟩ := lz_spec h0 h
  rw [wrap_s a, cast_shl]
  exact wrap_u c
theorem sh_uL {lo y : Nat} (h0 : 0 < y) (h : y < 18446744073709551616) :
    IntKind.u64.wrap ((lo : Int) * 2 ^ min (IntKind.u64.wrap (lzN y : Int)).toNat 64) = ((uL lo y : Nat) : Int) := by
  obtain ⟨a, b, c⟩ := lz_spec h0 h
  rw [wrap_s a, cast_shl, wrap_m]; rfl
theorem uH_lt {hi lo y : Nat} (hy : hi < y) (h : y < 18446744073709551616) (hl : lo < 18446744073709551616) : uH hi lo y < vN y := by
  obtain ⟨a, b, c⟩ := lz_spec (by omega) h
  have h1 : (hi + 1) * 2 ^ lzN y ≤ y * 2 ^ lzN y := Nat.mul_le_mul_right _ hy
  have h2 : lo / 2 ^ (64 - lzN y) < 2 ^ lzN y := by
    rw [Nat.div_lt_iff_lt_mul (Nat.two_pow_pos _), ← Nat.pow_add, show lzN y + (64 - lzN y) = 64 from by omega]; omega
  unfold uH vN
  rw [Nat.add_mul] at h1; omega
theorem sh_uH {hi lo y : Nat} (hy : hi < y) (h : y < 18446744073709551616) (hl : lo < 18446744073709551616) :
    bits .or .u64 (IntKind.u64.wrap ((hi : Int) * 2 ^ min (IntKind.u64.wrap (lzN y : Int)).toNat 64)) ((lo : Int) / 2 ^ min (IntKind.u64.wrap (64 - IntKind.u64.wrap (lzN y : Int))).toNat 64) = ((uH hi lo y : Nat) : Int) := by
  obtain ⟨a, b, c⟩ := lz_spec (by omega) h
  have u := uH_lt hy h hl
  have h2 : lo / 2 ^ (64 - lzN y) < 2 ^ lzN y := by
    rw [Nat.div_lt_iff_lt_mul (Nat.two_pow_pos _), ← Nat.pow_add, show lzN y + (64 - lzN y) = 64 from by omega]; omega
  unfold uH at u ⊢
  have hx : hi * 2 ^ lzN y < 18446744073709551616 := Nat.lt_of_le_of_lt (Nat.le_add_right _ _) (Nat.lt_trans u c)
  have hz : lo / 2 ^ (64 - lzN y) < 18446744073709551616 := Nat.lt_of_le_of_lt (Nat.div_le_self _ _) hl
  rw [wrap_s a, wrap_64s a, cast_shl, cast_shr, wrap_u hx, bits_or_u64_nat _ _ hx hz]
  rw [← Nat.shiftLeft_eq, ← Nat.shiftLeft_add_eq_or_of_lt h2]
theorem up32 (a : Nat) : (a : Int) / 4294967296 = ((top32 a : Nat) : Int) := by unfold top32; omega
theorem dn32 {a : Nat} (h : a < 18446744073709551616) : bits .and .u64 (a : Int) 4294967295 = ((low32 a : Nat) : Int) := by
  have h' := bits_and_u64_nat a 4294967295 h (by omega)
  have e : a &&& 4294967295 = a % 4294967296 := Nat.and_two_pow_sub_one_eq_mod a 32
  rw [e] at h'
  exact h'
theorem uL_lt (lo y : Nat) : uL lo y < 18446744073709551616 := by unfold uL; omega
theorem tl32 (a : Nat) : top32 a * 4294967296 + low32 a = a := by unfold top32 low32; omega
theorem low32_lt (a : Nat) : low32 a < 4294967296 := by unfold low32; omega
theorem top32_lt {a : Nat} (h : a < 18446744073709551616) : top32 a < 4294967296 := by unfold top32; omega

/-- The scaled dividend. -/
theorem scaled (hi lo y : Nat) (h0 : 0 < y) (h : y < 18446744073709551616) : uH hi lo y * 18446744073709551616 + uL lo y = (hi * 18446744073709551616 + lo) * 2 ^ lzN y := by
  obtain ⟨a, b, c⟩ := lz_spec h0 h
  unfold uH uL
  have e : 2 ^ lzN y * 2 ^ (64 - lzN y) = 18446744073709551616 := by rw [← Nat.pow_add, show lzN y + (64 - lzN y) = 64 from by omega]
  have e2 : lo * 2 ^ lzN y / 18446744073709551616 = lo / 2 ^ (64 - lzN y) := by
    rw [← e, Nat.mul_comm (2 ^ lzN y), Nat.mul_div_mul_right _ _ (Nat.two_pow_pos _)]
  have e3 := Nat.div_add_mod (lo * 2 ^ lzN y) 18446744073709551616
  rw [e2] at e3
  rw [Nat.add_mul, Nat.add_mul, Nat.mul_right_comm hi]
  omega

/-! One digit -/
def qd (U V D : Nat) : Nat := (U * 4294967296 + D) / V
def rd (U V D : Nat) : Nat := (U * 4294967296 + D) % V
def KInv (U V D q r : Nat) : Prop := q * top32 V + r = U ∧ qd U V D ≤ q ∧ r < 4294967296
def divN (a b : Nat) : Nat := a / b
def modN (a b : Nat) : Nat := a % b
def mulN (a b : Nat) : Nat := a * b
def linN (r D : Nat) : Nat := 4294967296 * r + D

theorem qd_lt {U V D : Nat} (hU : U < V) (hD : D < 4294967296) : qd U V D < 4294967296 := by
  unfold qd
  rw [Nat.div_lt_iff_lt_mul (by omega)]; omega
theorem kn_init {U V D : Nat} (hV : 9223372036854775808 ≤ V) (hV2 : V < 18446744073709551616) (hD : D < 4294967296) : KInv U V D (divN U (top32 V)) (modN U (top32 V)) := by
  have e := tl32 V
  have l := top32_lt hV2
  have p : 0 < top32 V := by unfold top32; omega
  refine ⟨?_, ?_, ?_⟩
  · unfold divN modN; exact Nat.div_add_mod' _ _
  · unfold divN
    rw [Nat.le_div_iff_mul_le p]
    have h1 : qd U V D * V ≤ U * 4294967296 + D := Nat.div_mul_le_self _ _
    generalize qd U V D = Q at *
    generalize top32 V = T at *
    generalize low32 V = L at *
    subst e
    rw [Nat.mul_add, ← Nat.mul_assoc] at h1
    generalize Q * T = X at *
    omega
  · unfold modN; have := Nat.mod_lt U p; omega
theorem kn_exit1 {U V D q r : Nat} (h : KInv U V D q r) (hV : 0 < V) (hq : mulN q (low32 V) ≤ linN r D) : q = qd U V D := by
  obtain ⟨h1, h2, h3⟩ := h
  refine Nat.le_antisymm ?_ h2
  unfold qd
  rw [Nat.le_div_iff_mul_le hV]
  unfold mulN linN at hq
  have e := tl32 V
  generalize top32 V = T at *
  generalize low32 V = L at *
  rw [← e, Nat.mul_add, ← Nat.mul_assoc]
  generalize q * T = X at *
  generalize q * L = Y at *
  omega
theorem kn_exit2 {U V D q r : Nat} (h1 : q * top32 V + r = U) (h2 : qd U V D ≤ q) (hU : U < V) (hr : 4294967296 ≤ r) : q = qd U V D := by
  refine Nat.le_antisymm ?_ h2
  unfold qd
  rw [Nat.le_div_iff_mul_le (by omega)]
  have e := tl32 V
  have l := low32_lt V
  generalize top32 V = T at *
  generalize low32 V = L at *
  have hq : q < 4294967296 := by
    by_cases hq : q < 4294967296
    · exact hq
    · have h5 := Nat.mul_le_mul_right T (Nat.le_of_not_lt hq); generalize q * T = X at *; omega
  have hq2 : q * L ≤ 4294967295 * 4294967295 := Nat.mul_le_mul (by omega) (by omega)
  rw [← e, Nat.mul_add, ← Nat.mul_assoc]
  generalize q * T = X at *
  generalize q * L = Y at *
  omega
theorem kn_dec {U V D q r : Nat} (h : KInv U V D q r) (hV : 0 < V) (hU : U < V) (hD : D < 4294967296) (hq : 4294967296 ≤ q ∨ linN r D < mulN q (low32 V)) :
    1 ≤ q ∧ (q - 1) * top32 V + (r + top32 V) = U ∧ qd U V D ≤ q - 1 := by
  have hlt := qd_lt hU hD
  obtain ⟨h1, h2, h3⟩ := h
  have hne : qd U V D < q := by
    rcases hq with hq | hq
    · omega
    · refine Nat.lt_of_not_le fun hle => ?_
      have h4 : qd U V D * V ≤ U * 4294967296 + D := Nat.div_mul_le_self _ _
      have h5 : q * V ≤ U * 4294967296 + D := Nat.le_trans (Nat.mul_le_mul_right V hle) h4
      unfold mulN linN at hq
      have e := tl32 V
      generalize top32 V = T at *
      generalize low32 V = L at *
      rw [← e, Nat.mul_add, ← Nat.mul_assoc] at h5
      generalize q * T = X at *
      generalize q * L = Y at *
      omega
  obtain ⟨p, rfl⟩ : ∃ p, q = p + 1 := ⟨q - 1, by omega⟩
  refine ⟨by omega, ?_, by omega⟩
  rw [Nat.add_mul] at h1
  simp only [Nat.add_sub_cancel]; omega
theorem w_div {U T : Nat} (hU : U < 18446744073709551616) : IntKind.u64.wrap ((U : Int) / (T : Int)) = ((divN U T : Nat) : Int) := by
  rw [← Int.natCast_ediv, wrap_u (Nat.lt_of_le_of_lt (Nat.div_le_self _ _) hU)]; rfl
theorem w_mod {U T : Nat} (hU : U < 18446744073709551616) : IntKind.u64.wrap ((U : Int) - IntKind.u64.wrap (((divN U T : Nat) : Int) * (T : Int))) = ((modN U T : Nat) : Int) := by
  have h := Nat.div_add_mod' U T
  unfold divN modN
  have h2 : U / T * T ≤ U := Nat.div_mul_le_self _ _
  rw [← Int.natCast_mul, wrap_u (by omega), IntKind.wrap_u64]
  generalize U / T * T = X at *
  omega
def predN (q : Nat) : Nat := q - 1
def sumN (r T : Nat) : Nat := r + T
theorem w_pred {q : Nat} (h1 : 1 ≤ q) (hq : q < 18446744073709551616) : IntKind.u64.wrap ((q : Int) - 1) = ((predN q : Nat) : Int) := by
  unfold predN; rw [IntKind.wrap_u64]; omega
theorem w_sum {r T : Nat} (hr : r < 4294967296) (hT : T < 4294967296) : IntKind.u64.wrap ((r : Int) + (T : Int)) = ((sumN r T : Nat) : Int) := by
  unfold sumN; rw [IntKind.wrap_u64]; omega
theorem kn_small {U V D q r : Nat} (h : KInv U V D q r) (hV : 9223372036854775808 ≤ V) (hU : U < 18446744073709551616) : q < 18446744073709551616 := by
  obtain ⟨h1, _, _⟩ := h
  have : 1 ≤ top32 V := by unfold top32; omega
  have := Nat.mul_le_mul_left q this
  omega
theorem w_mul {q L : Nat} (hq : q < 4294967296) (hL : L < 4294967296) : IntKind.u64.wrap ((q : Int) * (L : Int)) = ((mulN q L : Nat) : Int) := by
  have : q * L ≤ 4294967295 * 4294967295 := Nat.mul_le_mul (by omega) (by omega)
  rw [← Int.natCast_mul, wrap_u (by omega)]; rfl
theorem w_lin {r D : Nat} (hr : r < 4294967296) (hD : D < 4294967296) : IntKind.u64.wrap (IntKind.u64.wrap (4294967296 * (r : Int)) + (D : Int)) = ((linN r D : Nat) : Int) := by
  unfold linN; simp only [IntKind.wrap_u64]; omega
theorem rd_lt {U V D : Nat} (hV : 0 < V) : rd U V D < V := Nat.mod_lt _ hV
/-- What is left of a digit, modulo 2^64, is the rest. -/
theorem w_rest {U V D : Nat} (hV : 0 < V) (hV2 : V < 18446744073709551616) :
    IntKind.u64.wrap (IntKind.u64.wrap (IntKind.u64.wrap ((U : Int) * 4294967296) + (D : Int)) - IntKind.u64.wrap ((qd U V D : Nat) * (V : Int))) = ((rd U V D : Nat) : Int) := by
  have h1 : qd U V D * V + rd U V D = U * 4294967296 + D := Nat.div_add_mod' _ _
  have h2 := rd_lt (U := U) (D := D) hV
  rw [← Int.natCast_mul]
  generalize qd U V D * V = X at *
  generalize rd U V D = R at *
  simp only [IntKind.wrap_u64]
  omega
theorem two_digits {K Q1 Q0 V R1 R0 U D1 D0 : Nat} (e1 : Q1 * V + R1 = U * K + D1) (e2 : Q0 * V + R0 = R1 * K + D0) : (Q1 * K + Q0) * V + R0 = U * (K * K) + (D1 * K + D0) := by
  have h := congrArg (· * K) e1
  simp only [Nat.add_mul] at h
  rw [Nat.add_mul, Nat.mul_right_comm, ← Nat.mul_assoc U]
  omega
theorem two_fin {Q N V y P R0 : Nat} (key : Q * V + R0 = N * P) (hv : V = y * P) (p : 0 < P) (r2 : R0 < V) (h0 : 0 < y) : Q = N / y ∧ R0 / P = N % y := by
  subst hv
  have hd : R0 % P = 0 := by
    have h1 : (Q * (y * P) + R0) % P = 0 := by rw [key]; exact Nat.mul_mod_left _ _
    rw [← Nat.mul_assoc, Nat.mul_comm, Nat.mul_add_mod] at h1
    exact h1
  have hR : R0 / P * P = R0 := by have := Nat.div_add_mod' R0 P; omega
  generalize R0 / P = R at *
  have key2 : Q * y + R = N := by
    have : (Q * y + R) * P = N * P := by
      rw [Nat.add_mul, hR, Nat.mul_assoc]; exact key
    exact Nat.eq_of_mul_eq_mul_right p this
  have hRy : R < y := by
    have : R * P < y * P := by rw [hR]; exact r2
    exact Nat.lt_of_mul_lt_mul_right this
  constructor
  · rw [← key2, Nat.mul_comm, Nat.mul_add_div h0, Nat.div_eq_of_lt hRy]; omega
  · rw [← key2, Nat.mul_comm, Nat.mul_add_mod, Nat.mod_eq_of_lt hRy]
/-- Two digits together are the quotient; the rest is scaled. -/
theorem kn_two {hi lo y : Nat} (h0 : 0 < y) (hy : hi < y) (h : y < 18446744073709551616) (hl : lo < 18446744073709551616) :
    qd (uH hi lo y) (vN y) (top32 (uL lo y)) * 4294967296 + qd (rd (uH hi lo y) (vN y) (top32 (uL lo y))) (vN y) (low32 (uL lo y)) = (hi * 18446744073709551616 + lo) / y ∧
    rd (rd (uH hi lo y) (vN y) (top32 (uL lo y))) (vN y) (low32 (uL lo y)) / 2 ^ lzN y = (hi * 18446744073709551616 + lo) % y := by
  obtain ⟨a, b, c⟩ := lz_spec h0 h
  have s := scaled hi lo y h0 h
  have t := tl32 (uL lo y)
  have e1 : qd (uH hi lo y) (vN y) (top32 (uL lo y)) * vN y + rd (uH hi lo y) (vN y) (top32 (uL lo y)) = uH hi lo y * 4294967296 + top32 (uL lo y) := Nat.div_add_mod' _ _
  have e2 : qd (rd (uH hi lo y) (vN y) (top32 (uL lo y))) (vN y) (low32 (uL lo y)) * vN y + rd (rd (uH hi lo y) (vN y) (top32 (uL lo y))) (vN y) (low32 (uL lo y)) = rd (uH hi lo y) (vN y) (top32 (uL lo y)) * 4294967296 + low32 (uL lo y) := Nat.div_add_mod' _ _
  have r2 : rd (rd (uH hi lo y) (vN y) (top32 (uL lo y))) (vN y) (low32 (uL lo y)) < vN y := rd_lt (by omega)
  generalize qd (uH hi lo y) (vN y) (top32 (uL lo y)) = Q1 at *
  generalize rd (uH hi lo y) (vN y) (top32 (uL lo y)) = R1 at *
  generalize qd R1 (vN y) (low32 (uL lo y)) = Q0 at *
  generalize rd R1 (vN y) (low32 (uL lo y)) = R0 at *
  generalize top32 (uL lo y) = D1 at *
  generalize low32 (uL lo y) = D0 at *
  have p : 0 < 2 ^ lzN y := Nat.two_pow_pos _
  have key : (Q1 * 4294967296 + Q0) * vN y + R0 = (hi * 18446744073709551616 + lo) * 2 ^ lzN y := by
    rw [← s, two_digits e1 e2, t]
  exact two_fin key rfl p r2 h0
theorem w_quo {a b : Nat} (ha : a < 4294967296) (hb : b < 4294967296) : IntKind.u64.wrap (IntKind.u64.wrap ((a : Int) * 4294967296) + (b : Int)) = ((a * 4294967296 + b : Nat) : Int) := by
  simp only [IntKind.wrap_u64]; omega
end Go.Proofs.YtfecnogmjfmghaaDoor
