/- The document's own is and one of brackets. -/
import Derived.Test.YtfmekmbdienbjaaDoorSetL
import Derived.Test.YtfmekmbdienbjaaDoorSetEsc
namespace Go.Proofs.YtfmekmbdienbjaaDoor
set_option linter.unusedSimpArgs false
set_option linter.unusedVariables false
set_option linter.unnecessarySimpa false
open Go.RowKit

/-- Does a text stand at a place? -/
def isT (l : List UInt8) (k : Nat) (t : List UInt8) : Bool := decide (k + t.length ≤ l.length) && (l.drop k).take t.length == t
theorem isT1 (l : List UInt8) (k : Nat) (c : UInt8) : isT l k [c] = isL l k c := by
  unfold isT isL
  by_cases h : k < l.length
  · rw [decide_eq_true (by simp; omega), decide_eq_true h, drop_u8 l h]
    simp
  · rw [decide_eq_false (by simp; omega), decide_eq_false h]; rfl
theorem isT2 (l : List UInt8) (k : Nat) (c d : UInt8) : isT l k [c, d] = begL l k c d := by
  unfold isT begL isL
  by_cases h : k + 1 < l.length
  · rw [decide_eq_true (by simp; omega), decide_eq_true (by omega), decide_eq_true h, drop_u8 l (by omega), drop_u8 l h]
    simp
  · rw [decide_eq_false (by simp; omega), decide_eq_false h]; simp
theorem s8_mid (l : List UInt8) (i j : Nat) (hi : i ≤ j) (hj : j ≤ l.length) (x y : Int) (hx : x = (i : Int)) (hy : y = (j : Int)) (w : World) : (Instr.slice 9 (.string (S8 l)) (some (.int .i64 x)) (some (.int .i64 y)) none).run Tryd.prog w = .ok (.string (S8 ((l.drop i).take (j - i)))) w := by
  subst hx hy
  rw [run_slice_string w _ _ _ _ _ _ Tryd.underlying9 (by omega) (by omega) (by rw [S8_size]; omega), S8_extract]
  rfl
set_option maxRecDepth 100000 in
set_option maxHeartbeats 4000000 in
theorem ris_u (l t : List UInt8) (hl : l.length ≤ 1000000000) (ht : t.length ≤ 10) (k : Nat) (hk : k ≤ 2000000000) (w : World) :
    Calls Tryd.prog 27 #[.string (S8 l), .int .i64 (k : Int), .string (S8 t)] w fun e w' => e = .returned (.bool (isT l k t)) ∧ w = w' := by
  have L1 : ∀ ty w, (Builtin.len_ #[9] ty #[.string (S8 l)]).run Tryd.prog w = .ok (.int .i64 (l.length : Int)) w := fun ty w => s8_len l ty w
  have L2 : ∀ ty w, (Builtin.len_ #[9] ty #[.string (S8 t)]).run Tryd.prog w = .ok (.int .i64 (t.length : Int)) w := fun ty w => s8_len t ty w
  have w1 : IntKind.i64.wrap ((l.length : Int) - (t.length : Int)) = (l.length : Int) - (t.length : Int) := by rw [IntKind.wrap_i64]; omega
  have w2 : IntKind.i64.wrap ((k : Int) + (t.length : Int)) = (k : Int) + (t.length : Int) := by rw [IntKind.wrap_i64]; omega
  obtain ⟨b, hb⟩ : ∃ b, b = isT l k t := ⟨_, rfl⟩
  rw [← hb]
  unfold isT at hb
  by_cases h : k + t.length ≤ l.length
  · rw [decide_eq_true h, Bool.true_and] at hb
    have t1 : decide ((k : Int) ≤ (l.length : Int) - (t.length : Int)) = true := decide_eq_true (by omega)
    have hs := s8_mid l k (k + t.length) (by omega) h (k : Int) ((k : Int) + (t.length : Int)) rfl (by omega)
    rw [show k + t.length - k = t.length by omega] at hs
    have e1 : ((S8 ((l.drop k).take t.length)).toList == (S8 t).toList) = b := by rw [S8_list, S8_list, hb]
    clear hb h
    generalize S8 ((l.drop k).take t.length) = u at *
    generalize (l.length : Int) = n at *
    generalize (t.length : Int) = m at *
    generalize S8 l = sl at *
    generalize S8 t = st at *
    go_enter Tryd.func27, Tryd.ntmps27
    go_wp2
    go_ret
    exact ⟨rfl, rfl⟩
  · obtain rfl : b = false := by rw [hb, decide_eq_false h]; rfl
    have t1 : decide ((k : Int) ≤ (l.length : Int) - (t.length : Int)) = false := decide_eq_false (by omega)
    clear hb h
    generalize (l.length : Int) = n at *
    generalize (t.length : Int) = m at *
    generalize S8 l = sl at *
    generalize S8 t = st at *
    go_enter Tryd.func27, Tryd.ntmps27
    go_wp2
    go_ret
    exact ⟨rfl, rfl⟩
set_option maxRecDepth 100000 in
set_option maxHeartbeats 4000000 in
theorem one_ok (l : List UInt8) (hl : l.length ≤ 1000000000) (k : Nat) (c : UInt8) (n : Nat) (hr : letL l k = some (c, n)) (w : World) :
    Calls Tryd.prog 29 #[.string (S8 l), .int .i64 (k : Int)] w fun e w' => e = .returned (.tuple #[bv c, .int .i64 ((n : Int) - (k : Int))]) ∧ w = w' := by
  have L1 : ∀ ty w, (Builtin.len_ #[9] ty #[.string (S8 l)]).run Tryd.prog w = .ok (.int .i64 (l.length : Int)) w := fun ty w => s8_len l ty w
  unfold letL at hr
  have hlt : k < l.length := by
    rcases Nat.lt_or_ge k l.length with h | h
    · exact h
    · rw [if_neg (by omega), if_neg (by omega)] at hr; cases hr
  have i0 := s8_at l k hlt (k : Int) rfl
  have w1 : IntKind.i64.wrap ((k : Int) + 1) = (k : Int) + 1 := by rw [IntKind.wrap_i64]; omega
  have t1 : decide (l.length ≤ k) = false := decide_eq_false (by omega)
  by_cases hx : l.getD k 0 = 92
  · rw [if_neg (by intro h; exact h.2 hx)] at hr
    have hk1 : k + 1 < l.length := by
      rcases Nat.lt_or_ge (k + 1) l.length with h | h
      · exact h
      · rw [if_neg (by omega)] at hr; cases hr
    rw [if_pos hk1] at hr
    obtain ⟨rfl, rfl⟩ : escU (l.getD (k + 1) 0) = c ∧ k + 2 = n := by simpa using hr
    have i1 := s8_at l (k + 1) hk1 ((k : Int) + 1) (by omega)
    have HE : Hid (∀ w, Calls Tryd.prog 46 #[bv (l.getD (k + 1) 0)] w fun e w' => e = .returned (bv (escU (l.getD (k + 1) 0))) ∧ w = w') := fun w => resc_u _ w
    rw [hx, show bv 92 = .int .u8 92 from rfl] at i0
    rw [show ((k + 2 : Nat) : Int) - (k : Int) = 2 by omega]
    have t2 : decide ((l.length : Int) ≤ (k : Int) + 1) = false := decide_eq_false (by omega)
    clear hr hx
    generalize bv (escU (l.getD (k + 1) 0)) = r at *
    generalize bv (l.getD (k + 1) 0) = y at *
    generalize S8 l = sl at *
    go_enter Tryd.func29, Tryd.ntmps29
    go_wp2_with (go_at_call 46; refine (HE.out _).mono ?_; rintro e w' ⟨rfl, rfl⟩)
    refine bodyPost_ret (v := .tuple #[r, .int .i64 2]) (by simp [results, Tryd.results29, go_sem, *]) rfl ⟨rfl, ?_⟩
    rfl
  · rw [if_pos ⟨hlt, hx⟩] at hr
    obtain ⟨rfl, rfl⟩ : l.getD k 0 = c ∧ k + 1 = n := by simpa using hr
    have hne : (((l.getD k 0).toNat : Int) == 92) = false := by
      rw [beq_eq_false_iff_ne]; intro h; exact hx (UInt8.toNat_inj.1 (by show _ = 92; omega))
    rw [show ((k + 1 : Nat) : Int) - (k : Int) = 1 by omega]
    clear hr hx
    unfold bv at *
    generalize (l.getD k 0).toNat = y at *
    generalize S8 l = sl at *
    go_enter Tryd.func29, Tryd.ntmps29
    go_wp2
    refine bodyPost_ret (v := .tuple #[.int .u8 (y : Int), .int .i64 1]) (by simp [results, Tryd.results29, go_sem, *]) rfl ⟨rfl, ?_⟩
    rfl
set_option maxRecDepth 100000 in
set_option maxHeartbeats 4000000 in
theorem one_bad (l : List UInt8) (hl : l.length ≤ 1000000000) (k : Nat) (hk : k ≤ 2000000000) (hr : letL l k = none) (w : World) :
    Calls Tryd.prog 29 #[.string (S8 l), .int .i64 (k : Int)] w fun e w' => e = .returned (.tuple #[.int .u8 0, .int .i64 0]) ∧ w = w' := by
  have L1 : ∀ ty w, (Builtin.len_ #[9] ty #[.string (S8 l)]).run Tryd.prog w = .ok (.int .i64 (l.length : Int)) w := fun ty w => s8_len l ty w
  unfold letL at hr
  have w1 : IntKind.i64.wrap ((k : Int) + 1) = (k : Int) + 1 := by rw [IntKind.wrap_i64]; omega
  have hk1 : ¬ k + 1 < l.length := by
    intro h; rw [if_pos h] at hr; split at hr <;> cases hr
  have t2 : decide ((l.length : Int) ≤ (k : Int) + 1) = true := decide_eq_true (by omega)
  by_cases hlt : k < l.length
  · have i0 := s8_at l k hlt (k : Int) rfl
    have hx : l.getD k 0 = 92 := by
      rcases Decidable.em (l.getD k 0 = 92) with h | h
      · exact h
      · rw [if_pos ⟨hlt, h⟩] at hr; cases hr
    rw [hx, show bv 92 = .int .u8 92 from rfl] at i0
    have t1 : decide (l.length ≤ k) = false := decide_eq_false (by omega)
    clear hr hx
    generalize S8 l = sl at *
    go_enter Tryd.func29, Tryd.ntmps29
    go_wp2
    refine bodyPost_ret (v := .tuple #[.int .u8 0, .int .i64 0]) (by simp [results, Tryd.results29, go_sem, *]) rfl ⟨rfl, ?_⟩
    rfl
  · have t1 : decide (l.length ≤ k) = true := decide_eq_true (by omega)
    clear hr
    generalize S8 l = sl at *
    go_enter Tryd.func29, Tryd.ntmps29
    go_wp2
    refine bodyPost_ret (v := .tuple #[.int .u8 0, .int .i64 0]) (by simp [results, Tryd.results29, go_sem, *]) rfl ⟨rfl, ?_⟩
    rfl
end Go.Proofs.YtfmekmbdienbjaaDoor
