/- The contracts of dec.Int, dec.less, dec.Cmp, dec.Whole. -/
import Derived.Test.YtfecnogmjfmghaaDoorDecL
namespace Go.Proofs.YtfecnogmjfmghaaDoor
set_option linter.unusedSimpArgs false
set_option linter.unusedVariables false
set_option linter.unnecessarySimpa false
open Go.RowKit

def i64B (n : Int) : Prop := -9223372036854775808 ≤ n ∧ n ≤ 9223372036854775807
theorem ones_wrap {n : Int} (h : i64B n) (hn : 0 ≤ n) : IntKind.u64.wrap n = ((n.natAbs : Nat) : Int) := by
  unfold i64B at h; rw [IntKind.wrap_u64]; omega
theorem ones_neg {n : Int} (h : i64B n) (hn : n < 0) : IntKind.u64.wrap (-IntKind.u64.wrap n) = ((n.natAbs : Nat) : Int) := by
  unfold i64B at h; simp only [IntKind.wrap_u64]; omega
theorem int_lt {n : Int} (h : i64B n) : (n * 1000000).natAbs < topN := by
  unfold i64B at h; rw [topN_eq]; omega
theorem int_hi (n : Int) : mulH n.natAbs 1000000 = hiN (n * 1000000).natAbs := by
  unfold mulH hiN; rw [Int.natAbs_mul]; rfl
theorem int_lo (n : Int) : mulL n.natAbs 1000000 = loN (n * 1000000).natAbs := by
  unfold mulL loN; rw [Int.natAbs_mul]; rfl
theorem int_sgn (n : Int) : decide (n < 0) = negZ (n * 1000000) := by
  unfold negZ; rw [decide_eq_decide]; omega

theorem int_z (n : Int) (h : i64B n) (w : World) :
    Calls Tryd.prog 21 #[.int .i64 n] w fun e w' => e = .returned (ZV (n * 1000000)) ∧ Below w.heap.size w w' := by
  have C1 : Hid (∀ w, Calls Tryd.prog 40 #[.int .u64 ((n.natAbs : Nat) : Int), .int .u64 1000000] w fun e w' => e = .returned (.tuple #[.int .u64 (hiN (n * 1000000).natAbs : Nat), .int .u64 (loN (n * 1000000).natAbs : Nat)]) ∧ w = w') := by
    intro w
    rw [← int_hi, ← int_lo]
    exact mul64 n.natAbs 1000000 (by unfold i64B at h; omega) (by omega) w
  have S := Lib.hid (int_sgn n)
  by_cases hn : n < 0
  · have E := Lib.hid (ones_neg h hn)
    clear h
    go_enter Tryd.func21, Tryd.ntmps21
    go_wp2_with fail
    simp only [E.out]
    refine (C1.out _).mono ?_; rintro e w1 ⟨rfl, rfl⟩
    go_wp2
    refine bodyPost_ret (v := .agg #[.bool true, .int .u64 (hiN (n * 1000000).natAbs : Nat), .int .u64 (loN (n * 1000000).natAbs : Nat)]) (by simp [results, Tryd.results21, go_sem, *]) rfl ⟨ret_dv (by rw [← S.out]; exact (decide_eq_true hn).symm) rfl rfl, ?_⟩
    repeat (first | (with_reducible exact Below.refl _ _) | (with_reducible refine Below.drew ?_) | (refine Below.setCell ?_ (by first | exact Nat.le_refl _ | (simp; done) | (simp; omega) | omega) _) | (refine Below.alloc ?_ (by first | exact Nat.le_refl _ | (simp; done) | (simp; omega) | omega) _) | (refine Below.trans ?_ (Below.mono (by assumption) (by first | exact Nat.le_refl _ | (simp; done) | (simp; omega) | omega))))
  · have E := Lib.hid (ones_wrap h (by omega))
    clear h
    go_enter Tryd.func21, Tryd.ntmps21
    go_wp2_with fail
    simp only [E.out]
    refine (C1.out _).mono ?_; rintro e w1 ⟨rfl, rfl⟩
    go_wp2
    refine bodyPost_ret (v := .agg #[.bool false, .int .u64 (hiN (n * 1000000).natAbs : Nat), .int .u64 (loN (n * 1000000).natAbs : Nat)]) (by simp [results, Tryd.results21, go_sem, *]) rfl ⟨ret_dv (by rw [← S.out]; exact (decide_eq_false (by omega)).symm) rfl rfl, ?_⟩
    repeat (first | (with_reducible exact Below.refl _ _) | (with_reducible refine Below.drew ?_) | (refine Below.setCell ?_ (by first | exact Nat.le_refl _ | (simp; done) | (simp; omega) | omega) _) | (refine Below.alloc ?_ (by first | exact Nat.le_refl _ | (simp; done) | (simp; omega) | omega) _) | (refine Below.trans ?_ (Below.mono (by assumption) (by first | exact Nat.le_refl _ | (simp; done) | (simp; omega) | omega))))

/-! ## less, Cmp -/
def cmpZ (x y : Int) : Int := if x = y then 0 else if x < y then -1 else 1
theorem eqM_z (x y : Int) : eqM (negZ x) x.natAbs (negZ y) y.natAbs = decide (x = y) := by
  unfold eqM negZ
  by_cases h : x = y
  · subst h; simp
  · simp only [h, decide_false, Bool.and_eq_false_iff, beq_eq_false_iff_ne, decide_eq_false_iff_not]
    by_cases h2 : x.natAbs = y.natAbs
    · left; intro e; rw [decide_eq_decide] at e; omega
    · right; exact h2

end Go.Proofs.YtfecnogmjfmghaaDoor
