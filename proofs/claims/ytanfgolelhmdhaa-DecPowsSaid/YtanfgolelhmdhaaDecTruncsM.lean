/- The walk of the statement DecTruncs: a whole part is whole; what is left has the number's sign, and is less than 1. -/
import Derived.Test.YtanfgolelhmdhaaDecUnitsB
import Derived.Test.YtanfgolelhmdhaaLin
namespace Go.Proofs.Ytanfgolelhmdhaa
set_option linter.unusedSimpArgs false
set_option linter.unusedVariables false
set_option linter.unnecessarySimpa false
open Go.RowKit

theorem trunc_top {x : Int} (h : x.natAbs < topN) : (truncZ x).natAbs < topN := by
  rw [← trunc_abs]; omega
theorem trunc_self (x : Int) : truncZ (truncZ x) = truncZ x := by
  unfold truncZ; rw [Int.mul_tdiv_cancel _ (by decide)]
theorem sub_trunc (x : Int) : x - truncZ x = x.tmod 1000000 := by
  have := Int.tmod_add_mul_tdiv x 1000000; unfold truncZ; omega
theorem tmod_small (x : Int) : (x.tmod 1000000).natAbs < 1000000 := by
  rw [Int.natAbs_tmod]; exact Nat.mod_lt _ (by decide)
theorem tmod_top (x : Int) : (x.tmod 1000000).natAbs < topN := by
  have := tmod_small x; rw [topN_eq]; omega
theorem tmod_neg {x : Int} (h : x.tmod 1000000 < 0) : negZ x = true := by
  apply decide_eq_true
  by_cases hx : 0 ≤ x
  · have := Int.tmod_nonneg 1000000 hx; omega
  · omega
theorem tmod_pos {x : Int} (h : 0 < x.tmod 1000000) : negZ x = false := by
  apply decide_eq_false
  intro hx
  have := Int.neg_tmod x 1000000
  have := Int.tmod_nonneg (a := -x) 1000000 (by omega)
  omega

theorem sub_trunc_w {x : Int} (hx : x.natAbs < topN) : ∀ w, Calls Try.prog 14 #[ZV x, ZV (truncZ x)] w fun e w' => e = .returned (.tuple #[ZV (x.tmod 1000000), .nilIface]) ∧ Below w.heap.size w w' := by
  intro w
  have k := sub_z x (truncZ x) hx (trunc_top hx) w
  rw [sub_trunc, fitR_0 (tmod_top x)] at k
  exact k
theorem mod_one_w {x : Int} (hx : x.natAbs < topN) : ∀ w, Calls Try.prog 26 #[ZV x, ZV 1000000] w fun e w' => e = .returned (.tuple #[ZV (x.tmod 1000000), .nilIface]) ∧ Below w.heap.size w w' := by
  intro w
  have k := mod_z x 1000000 hx one_top (by decide) w
  exact k
theorem cmpZ_lt {x y : Int} (h : x < y) : cmpZ x y = -1 := by unfold cmpZ; rw [if_neg (by omega), if_pos h]
theorem cmpZ_gt {x y : Int} (h : y < x) : cmpZ x y = 1 := by unfold cmpZ; rw [if_neg (by omega), if_neg (by omega)]
theorem cmpZ_eq (x : Int) : cmpZ x x = 0 := by unfold cmpZ; rw [if_pos rfl]
theorem cmp_one_w {d : Int} (hd : d.natAbs < 1000000) : ∀ w, Calls Try.prog 18 #[ZV d, ZV 1000000] w fun e w' => e = .returned (.int .i64 (-1)) ∧ Below w.heap.size w w' := by
  intro w
  have k := cmp_z d 1000000 (by rw [topN_eq]; omega) one_top w
  rw [cmpZ_lt (by omega)] at k
  exact k
theorem cmp_00_w {d : Int} (h0 : d = 0) : ∀ w, Calls Try.prog 18 #[ZV d, .agg #[.bool false, .int .u64 0, .int .u64 0]] w fun e w' => e = .returned (.int .i64 0) ∧ Below w.heap.size w w' := by
  intro w
  have k := cmp_z 0 0 zero_top zero_top w
  rw [cmpZ_eq] at k
  subst h0
  exact k
theorem cmp_zero_w {d : Int} (hd : d.natAbs < 1000000) (h0 : 0 < d) : ∀ w, Calls Try.prog 18 #[ZV d, .agg #[.bool false, .int .u64 0, .int .u64 0]] w fun e w' => e = .returned (.int .i64 1) ∧ Below w.heap.size w w' := by
  intro w
  have k := cmp_z d 0 (by rw [topN_eq]; omega) zero_top w
  rw [cmpZ_gt (by omega)] at k
  exact k

end Go.Proofs.Ytanfgolelhmdhaa
