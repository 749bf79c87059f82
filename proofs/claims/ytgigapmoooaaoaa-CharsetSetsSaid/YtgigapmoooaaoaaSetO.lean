/- Two sets compared. -/
import Derived.Test.YtgigapmoooaaoaaSetN
import Derived.Test.YtgigapmoooaaoaaLinD
import Derived.ChangeKeysEq
namespace Go.Proofs.Ytgigapmoooaaoaa
set_option linter.unusedSimpArgs false
set_option linter.unusedVariables false
set_option linter.unnecessarySimpa false
open Go.RowKit
theorem u64_equalIn (d : Nat) (x : Int) (w : World) : (Op.equalIn (d + 1) 23 (.int .u64 x) (.int .u64 x)).run Try.prog w = .ok true w := by
  have hk : Try.prog.underlying 23 = some (.int .u64) := by kernel_rfl
  simp [Op.equalIn, run_underlying hk]
theorem set_equalIn' (D : Nat) (h : ∀ x w, (Op.equalIn D 23 (.int .u64 x) (.int .u64 x)).run Try.prog w = .ok true w) (a b c d : Int) (w : World) : (Op.equalIn (D + 1) 25 (.agg #[.int .u64 a, .int .u64 b, .int .u64 c, .int .u64 d]) (.agg #[.int .u64 a, .int .u64 b, .int .u64 c, .int .u64 d])).run Try.prog w = .ok true w := by
  obtain ⟨i, hi⟩ : ∃ i, Try.prog.info? 23 = some i := Option.isSome_iff_exists.1 (by kernel_rfl)
  have hu : Try.prog.underlying 25 = some (.array 4 23) := by kernel_rfl
  have h1 := run_equalIn_array (P := Try.prog) w D #[.int .u64 a, .int .u64 b, .int .u64 c, .int .u64 d] #[.int .u64 a, .int .u64 b, .int .u64 c, .int .u64 d] hu hi
  have hc : Try.prog.cellsOf 23 = 1 := by kernel_rfl
  have hk : Try.prog.underlying 23 = some (.int .u64) := by kernel_rfl
  have hp : ∀ (xs : Array Value) (k : Nat) (x : Int) (w : World), xs[k]? = some (.int .u64 x) → (part 23 xs k).run Try.prog w = .ok (.int .u64 x) w := by
    intro xs k x w hx
    simp [part, isAgg, run_underlying hk, underlying, hx, Try.underlying23]
  rw [h1, hc]
  rw [show List.range 4 = [0, 1, 2, 3] from rfl]
  simp only [Op.eqItems, Sem.run_bind, Nat.mul_one]
  rw [hp _ 0 a w rfl]; simp only [Result.andThen]
  rw [hp _ 0 a w rfl]; simp only [Result.andThen]
  rw [h]; simp only [Result.andThen, Bool.not_true, Bool.false_eq_true, if_false, Sem.run_bind]
  rw [hp _ 1 b w rfl]; simp only [Result.andThen]
  rw [hp _ 1 b w rfl]; simp only [Result.andThen]
  rw [h]; simp only [Result.andThen, Bool.not_true, Bool.false_eq_true, if_false, Sem.run_bind]
  rw [hp _ 2 c w rfl]; simp only [Result.andThen]
  rw [hp _ 2 c w rfl]; simp only [Result.andThen]
  rw [h]; simp only [Result.andThen, Bool.not_true, Bool.false_eq_true, if_false, Sem.run_bind]
  rw [hp _ 3 d w rfl]; simp only [Result.andThen]
  rw [hp _ 3 d w rfl]; simp only [Result.andThen]
  rw [h]; simp only [Result.andThen, Bool.not_true, Bool.false_eq_true, if_false]
  rfl
theorem set_equalIn (a b c d : Int) (w : World) : (Op.equalIn 10000 25 (.agg #[.int .u64 a, .int .u64 b, .int .u64 c, .int .u64 d]) (.agg #[.int .u64 a, .int .u64 b, .int .u64 c, .int .u64 d])).run Try.prog w = .ok true w :=
  set_equalIn' 9999 (fun x w => u64_equalIn 9998 x w) a b c d w
theorem eql_set (p q : Nat → Bool) (h : setA p = setA q) (w : World) : (binOp .eql 25 (setV p) (setV q)).run Try.prog w = .ok (.bool true) w := by
  have := set_equalIn (wd q 0 : Nat) (wd q 1 : Nat) (wd q 2 : Nat) (wd q 3 : Nat) w
  unfold setV
  rw [h]
  unfold setA
  generalize ((wd q 0 : Nat) : Int) = a at *
  generalize ((wd q 1 : Nat) : Int) = b at *
  generalize ((wd q 2 : Nat) : Int) = c at *
  generalize ((wd q 3 : Nat) : Int) = d at *
  simp only [binOp]
  simp [Op.equal, Op.maxDepth, this]
theorem neq_set (p q : Nat → Bool) (h : setA p = setA q) (w : World) : (binOp .neq 25 (setV p) (setV q)).run Try.prog w = .ok (.bool false) w := by
  have := set_equalIn (wd q 0 : Nat) (wd q 1 : Nat) (wd q 2 : Nat) (wd q 3 : Nat) w
  unfold setV
  rw [h]
  unfold setA
  generalize ((wd q 0 : Nat) : Int) = a at *
  generalize ((wd q 1 : Nat) : Int) = b at *
  generalize ((wd q 2 : Nat) : Int) = c at *
  generalize ((wd q 3 : Nat) : Int) = d at *
  simp only [binOp]
  simp [Op.equal, Op.maxDepth, this]
end Go.Proofs.Ytgigapmoooaaoaa
