/- Code and place of an error at a place. -/
import Derived.Test.YtfmekmbdienbjaaSetZ
namespace Go.Proofs.Ytfmekmbdienbjaa
set_option linter.unusedSimpArgs false
set_option linter.unusedVariables false
set_option linter.unnecessarySimpa false
open Go.RowKit Go.Extern.Stop Go.Stop Go.Extern

theorem isf_same (b c : Nat) (w : World) (hc : w.cell? ⟨b, 1, none⟩ = some (.iface 41 (.int .i64 (c : Int)))) : Calls Try.prog 13 #[.iface 47 (.pointer (some ⟨b, 0, none⟩)), .iface 41 (.int .i64 (c : Int))] w fun e w' => e = .returned (.bool true) ∧ w = w' := by
  have h := is_fault b 0 (c : Int) (c : Int) w hc
  rw [beq_self_eq_true] at h
  exact h
theorem isf_other (b c k : Nat) (hk : k ≠ c) (w : World) (hc : w.cell? ⟨b, 1, none⟩ = some (.iface 41 (.int .i64 (c : Int)))) : Calls Try.prog 13 #[.iface 47 (.pointer (some ⟨b, 0, none⟩)), .iface 41 (.int .i64 (k : Int))] w fun e w' => e = .returned (.bool false) ∧ w = w' := by
  have h := is_fault b 0 (c : Int) (k : Int) w hc
  have e : ((c : Int) == (k : Int)) = false := by rw [beq_eq_false_iff_ne]; omega
  rw [e] at h
  exact h
theorem code_fault (b c : Nat) (h1 : 1 ≤ c) (h25 : c ≤ 25) (w : World) (hc : w.cell? ⟨b, 1, none⟩ = some (.iface 41 (.int .i64 (c : Int)))) :
    Calls Try.prog 7 #[.iface 47 (.pointer (some ⟨b, 0, none⟩))] w fun e w' => e = .returned (.int .i64 (c : Int)) ∧ w = w' := by
  have HC := Lib.hid hc
  clear hc
  go_enter Try.func7, Try.ntmps7
  go_upto_region 4 with fail
  go_loop [3] (fun t3 => ∃ k : Nat, 1 ≤ k ∧ k ≤ c ∧ t3 = .int .i64 (k : Int)) (fun t3 => 26 - (intOf t3).toNat)
  case atStart => exact ⟨1, by omega, h1, rfl⟩
  case round =>
    obtain ⟨k, hk1, hkc, rfl⟩ := hrel
    have ht : (k : Int) ≤ 25 := by omega
    by_cases hk : k = c
    · have C := Lib.hid (isf_same b c w HC.out)
      subst hk
      go_wp2_with (go_at_call 13; refine (C.out).mono ?_; rintro e w1 ⟨rfl, rfl⟩)
      go_ret
      exact ⟨rfl, rfl⟩
    · have C := Lib.hid (isf_other b c k hk w HC.out)
      have Hk := Lib.hid hk
      clear hk
      go_wp2_with (go_at_call 13; refine (C.out).mono ?_; rintro e w1 ⟨rfl, rfl⟩)
      go_round
      case rel => exact ⟨k + 1, by omega, by have := Hk.out; omega, by go_num⟩
      case measure => simp [intOf]; omega

end Go.Proofs.Ytfmekmbdienbjaa
