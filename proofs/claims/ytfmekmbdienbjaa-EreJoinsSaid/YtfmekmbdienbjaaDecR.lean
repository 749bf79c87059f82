/- The contracts of errors.Is and of Code on errors that are numbers, or nil. -/
import Derived.Test.YtfmekmbdienbjaaRows
import Derived.Test.YtfmekmbdienbjaaDecM
import Derived.WalkKit
import Derived.WalkSpells
import Derived.WalkLawsBesides
import Derived.Lib.Hide
import Derived.LaidEql
import Derived.Stop.Asserts
import Derived.RowKitTokens
import Derived.LoopN
import Derived.Deep.Cut
namespace Go.Proofs.Ytfmekmbdienbjaa
set_option linter.unusedSimpArgs false
set_option linter.unusedVariables false
set_option linter.unnecessarySimpa false
open Go.RowKit Go.Extern.Stop Go.Stop Go.Extern

section
variable {P : Program} (w : World)
theorem run_equalIn_num (d : Nat) {ti tn : TypeId} {ms : Array (String × TypeId)} {i : TypeInfo} {k : IntKind} (a b : Int)
    (hi : P.underlying ti = some (.interface ms)) (hn : P.underlying tn = some (.int k)) (hinfo : P.info? tn = some i) (hcomp : i.comparable = true) :
    (Op.equalIn (d + 2) ti (.iface tn (.int k a)) (.iface tn (.int k b))).run P w = .ok (a == b) w := by
  simp [Op.equalIn, run_underlying hi, run_underlying hn, typeInfo, hinfo, hcomp]
theorem run_eql_num {ti tn : TypeId} {ms : Array (String × TypeId)} {i : TypeInfo} {k : IntKind} (a b : Int)
    (hi : P.underlying ti = some (.interface ms)) (hn : P.underlying tn = some (.int k)) (hinfo : P.info? tn = some i) (hcomp : i.comparable = true) :
    (binOp .eql ti (.iface tn (.int k a)) (.iface tn (.int k b))).run P w = .ok (.bool (a == b)) w := by
  simp only [binOp]
  simp [Op.equal, Op.maxDepth, run_equalIn_num w 9998 a b hi hn hinfo hcomp]
end

theorem typeOfCall (v : Value) (w : World) : (callFunc 18 #[.iface 41 v]).run Try.prog w = .ok (.value (.iface 59 (.agg #[.pointer (some ⟨1, 41, none⟩)]))) w := by kernel_rfl
theorem comparableCall (w : World) : (callFunc 74 #[.agg #[.pointer (some ⟨1, 41, none⟩)]]).run Try.prog w = .ok (.value (.bool true)) w := by kernel_rfl
theorem isMethodComparable (v : Value) (w : World) : (Go.method 228 59 v "Comparable").run Try.prog w = .ok (74, v) w := by kernel_rfl
theorem isComp : (Try.prog.info? 41).map (·.comparable) = some true := by kernel_rfl
theorem noIs (v : Value) (xT : TypeId) (w : World) : (Instr.typeAssert (.iface 41 v) xT 61 true).run Try.prog w = .ok (.tuple #[.nilIface, .bool false]) w := run_typeAssert_lacksB Try.underlying61 (by kernel_rfl) (by kernel_rfl) v xT w
theorem noUnwrap (v : Value) (xT : TypeId) (w : World) : (Instr.typeAssert (.iface 41 v) xT 64 true).run Try.prog w = .ok (.tuple #[.nilIface, .bool false]) w := run_typeAssert_lacksB Try.underlying64 (by kernel_rfl) (by kernel_rfl) v xT w
theorem noUnwraps (v : Value) (xT : TypeId) (w : World) : (Instr.typeAssert (.iface 41 v) xT 66 true).run Try.prog w = .ok (.tuple #[.nilIface, .bool false]) w := run_typeAssert_lacksB Try.underlying66 (by kernel_rfl) (by kernel_rfl) v xT w

set_option maxRecDepth 100000 in
theorem is_num (a b : Int) (w : World) :
    Calls Try.prog 13 #[.iface 41 (.int .i64 a), .iface 41 (.int .i64 b)] w fun e w' => e = .returned (.bool (a == b)) ∧ w = w' := by
  obtain ⟨i, hi, hcmp⟩ := Option.map_eq_some_iff.1 isComp
  have tT := typeOfCall
  have cT := comparableCall
  have mR := isMethodComparable
  have nE := noIs
  have uE := noUnwrap
  have vE := noUnwraps
  have heq := fun w => run_eql_num (P := Try.prog) w a b Try.underlying31 Try.underlying41 hi hcmp
  cases hab : (a == b)
  all_goals
    rw [hab] at heq
    go_enter Try.func13, Try.ntmps13
    go_wp2
    refine wp_loop_rounds 1 ?_
    rw [rounds_succ]
    go_wp2
    go_ret
    exact ⟨rfl, rfl⟩

theorem code_nil (w : World) :
    Calls Try.prog 7 #[.nilIface] w fun e w' => e = .returned (.int .i64 0) ∧ w = w' := by
  go_enter Try.func7, Try.ntmps7
  go_wp2
  go_ret
  exact ⟨rfl, rfl⟩

theorem is_same (c : Nat) (w : World) : Calls Try.prog 13 #[.iface 41 (.int .i64 (c : Int)), .iface 41 (.int .i64 (c : Int))] w fun e w' => e = .returned (.bool true) ∧ w = w' := by
  have h := is_num (c : Int) (c : Int) w
  rw [beq_self_eq_true] at h
  exact h
theorem is_other (c k : Nat) (hk : k ≠ c) (w : World) : Calls Try.prog 13 #[.iface 41 (.int .i64 (c : Int)), .iface 41 (.int .i64 (k : Int))] w fun e w' => e = .returned (.bool false) ∧ w = w' := by
  have h := is_num (c : Int) (k : Int) w
  have e : ((c : Int) == (k : Int)) = false := by rw [beq_eq_false_iff_ne]; omega
  rw [e] at h
  exact h

theorem code_num (c : Nat) (h1 : 1 ≤ c) (h25 : c ≤ 25) (w : World) :
    Calls Try.prog 7 #[.iface 41 (.int .i64 (c : Int))] w fun e w' => e = .returned (.int .i64 (c : Int)) ∧ w = w' := by
  go_enter Try.func7, Try.ntmps7
  go_upto_region 4 with fail
  go_loop [3] (fun t3 => ∃ k : Nat, 1 ≤ k ∧ k ≤ c ∧ t3 = .int .i64 (k : Int)) (fun t3 => 26 - (intOf t3).toNat)
  case atStart => exact ⟨1, by omega, h1, rfl⟩
  case round =>
    obtain ⟨k, hk1, hkc, rfl⟩ := hrel
    have ht : (k : Int) ≤ 25 := by omega
    by_cases hk : k = c
    · have C := Lib.hid (is_same c)
      subst hk
      go_wp2_with (go_at_call 13; refine (C.out _).mono ?_; rintro e w1 ⟨rfl, rfl⟩)
      go_ret
      exact ⟨rfl, rfl⟩
    · have C := Lib.hid (is_other c k hk)
      have Hk := Lib.hid hk
      clear hk
      go_wp2_with (go_at_call 13; refine (C.out _).mono ?_; rintro e w1 ⟨rfl, rfl⟩)
      go_round
      case rel => exact ⟨k + 1, by omega, by have := Hk.out; omega, by go_num⟩
      case measure => simp [intOf]; omega

/-- Code of an error's value is its number. -/
theorem code_v (c : Nat) (h25 : c ≤ 25) (w : World) :
    Calls Try.prog 7 #[errV c] w fun e w' => e = .returned (.int .i64 (c : Int)) ∧ w = w' := by
  by_cases h : c = 0
  · subst h; exact code_nil w
  · have e : errV c = .iface 41 (.int .i64 (c : Int)) := by unfold errV; rw [if_neg h]
    rw [e]; exact code_num c (by omega) h25 w
end Go.Proofs.Ytfmekmbdienbjaa
