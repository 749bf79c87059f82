/- errors.Is and Code on an error at a place. -/
import Derived.Test.YtfmekmbdienbjaaSetF
import Derived.Test.YtfmekmbdienbjaaDecR
namespace Go.Proofs.Ytfmekmbdienbjaa
set_option linter.unusedSimpArgs false
set_option linter.unusedVariables false
set_option linter.unnecessarySimpa false
open Go.RowKit Go.Extern.Stop Go.Stop Go.Extern

theorem noIsF (v : Value) (xT : TypeId) (w : World) : (Instr.typeAssert (.iface 47 v) xT 61 true).run Try.prog w = .ok (.tuple #[.nilIface, .bool false]) w := run_typeAssert_lacksB Try.underlying61 (by kernel_rfl) (by kernel_rfl) v xT w
theorem hasUnwrapF (v : Value) (xT : TypeId) (w : World) : (Instr.typeAssert (.iface 47 v) xT 64 true).run Try.prog w = .ok (.tuple #[.iface 47 v, .bool true]) w := run_typeAssert_hasB Try.underlying64 (by kernel_rfl) v xT w
theorem methodUnwrapF (v : Value) (w : World) : (Go.method 228 47 v "Unwrap").run Try.prog w = .ok (70, v) w := by kernel_rfl
set_option maxRecDepth 100000 in
set_option maxHeartbeats 4000000 in
theorem is_fault (b : Nat) (p : Int) (a k : Int) (w : World) (hc : w.cell? ⟨b, 1, none⟩ = some (.iface 41 (.int .i64 a))) :
    Calls Try.prog 13 #[.iface 47 (.pointer (some ⟨b, 0, none⟩)), .iface 41 (.int .i64 k)] w fun e w' => e = .returned (.bool (a == k)) ∧ w = w' := by
  obtain ⟨i, hi, hcmp⟩ := Option.map_eq_some_iff.1 isComp
  have tT := typeOfCall
  have cT := comparableCall
  have mR := isMethodComparable
  have nE := noIs
  have uE := noUnwrap
  have vE := noUnwraps
  have nF := noIsF
  have uF := hasUnwrapF
  have mF := methodUnwrapF
  have eF := fun vx vy w => run_eql_iface_types (P := Try.prog) 47 41 vx vy Try.underlying31 (by decide) w
  have heq := fun w => run_eql_num (P := Try.prog) w a k Try.underlying31 Try.underlying41 hi hcmp
  cases hab : (a == k)
  all_goals
    rw [hab] at heq
    go_enter Try.func13, Try.ntmps13
    go_wp2
    refine wp_loop_rounds 2 ?_
    rw [rounds_succ]
    go_wp2
    rw [rounds_succ]
    go_wp2

    go_ret
    exact ⟨rfl, rfl⟩
end Go.Proofs.Ytfmekmbdienbjaa
