/- The contracts of Not, Count, Range of charset. -/
import Derived.Test.YtfmekmbdienbjaaSetB
import Derived.Laws.Bits64
import Derived.Laws.Bits64
namespace Go.Proofs.Ytfmekmbdienbjaa
set_option linter.unusedSimpArgs false
set_option linter.unusedVariables false
set_option linter.unnecessarySimpa false
open Go.RowKit

theorem xor_all {x : Nat} (h : x < 18446744073709551616) : bits BinOp.xor IntKind.u64 (if IntKind.u64.signed = true then -1 else IntKind.u64.max) (x : Int) = ((18446744073709551615 - x : Nat) : Int) := by
  rw [show (if IntKind.u64.signed = true then (-1 : Int) else IntKind.u64.max) = ((18446744073709551615 : Nat) : Int) by decide, bits_xor_u64_nat _ _ (by decide) h]
  congr 1
  refine Nat.eq_of_testBit_eq fun j => ?_
  rw [Nat.testBit_xor, show 18446744073709551615 - x = 2 ^ 64 - (x + 1) by omega, Nat.testBit_two_pow_sub_succ h, show (18446744073709551615 : Nat) = 2 ^ 64 - 1 from rfl, Nat.testBit_two_pow_sub_one]
  by_cases hj : j < 64
  · simp [hj]
  · have hx : x < 2 ^ j := Nat.lt_of_lt_of_le h (Nat.pow_le_pow_right (n := 2) (i := 64) (by decide) (Nat.le_of_not_lt hj))
    rw [Nat.testBit_lt_two_pow hx]; simp [hj]
theorem idx_u (p : Nat → Bool) {j : Nat} (h : j < 4) (w : World) : (Instr.index 26 (setV p) (.int .i64 (j : Int))).run Try.prog w = .ok (.int .u64 ((wd p j : Nat) : Int)) w := by
  rcases (by omega : j = 0 ∨ j = 1 ∨ j = 2 ∨ j = 3) with rfl | rfl | rfl | rfl <;> kernel_rfl
set_option maxRecDepth 100000 in
set_option maxHeartbeats 4000000 in
theorem not_u (p : Nat → Bool) (w : World) :
    Calls Try.prog 27 #[setV p] w fun e w' => e = .returned (setV (fun x => !p x)) ∧ Below w.heap.size w w' := by
  obtain ⟨r, hr⟩ : ∃ r : Nat → Bool, r = fun x => !p x := ⟨_, rfl⟩
  rw [← hr]
  have HO : Hid (∀ j, 18446744073709551615 - wd p j = wd r j) := by intro j; rw [hr]; exact wd_not p j
  clear hr
  go_enter Try.func27, Try.ntmps27
  go_upto_region 1 with fail
  have r0 : Row (w.alloc (.cells (setA p) 26)) w.heap.size 26 (setA p) := Row.new w _ _
  have r2 : Row ((w.alloc (.cells (setA p) 26)).alloc (.cells #[.int .u64 0, .int .u64 0, .int .u64 0, .int .u64 0] 26)) (w.heap.size + 1) 26 #[.int .u64 0, .int .u64 0, .int .u64 0, .int .u64 0] := by
    have := Row.new (w.alloc (.cells (setA p) 26)) 26 #[.int .u64 0, .int .u64 0, .int .u64 0, .int .u64 0]
    simpa using this
  have r0' := r0.alloc (.cells #[.int .u64 0, .int .u64 0, .int .u64 0, .int .u64 0] 26)
  have hB : Below w.heap.size w ((w.alloc (.cells (setA p) 26)).alloc (.cells #[.int .u64 0, .int .u64 0, .int .u64 0, .int .u64 0] 26)) := by repeat (first | (with_reducible exact Below.refl _ _) | (with_reducible refine Below.drew ?_) | (refine Below.setCell ?_ (by first | exact Nat.le_refl _ | (simp; done) | (simp; omega) | omega) _) | (refine Below.alloc ?_ (by first | exact Nat.le_refl _ | (simp; done) | (simp; omega) | omega) _) | (refine Below.trans ?_ (Below.mono (by assumption) (by first | exact Nat.le_refl _ | (simp; done) | (simp; omega) | omega))))
  have r0'' : Row ((w.alloc (.cells (setA p) 26)).alloc (.cells #[.int .u64 0, .int .u64 0, .int .u64 0, .int .u64 0] 26)) w.heap.size 26 (setA (mixP p r 0)) := by rw [mixP_0]; exact r0'
  have R := Lib.hid (And.intro r0'' (And.intro r2 hB))
  clear r0 r2 r0' r0'' hB
  generalize ((w.alloc (.cells (setA p) 26)).alloc (.cells #[.int .u64 0, .int .u64 0, .int .u64 0, .int .u64 0] 26)) = w1 at *
  go_wp2
  go_loopw [4] (fun i wr => ∃ j : Nat, j ≤ 4 ∧ i = .int .i64 (j : Int) ∧ Row wr w.heap.size 26 (setA (mixP p r j)) ∧ Row wr (w.heap.size + 1) 26 #[.int .u64 0, .int .u64 0, .int .u64 0, .int .u64 0] ∧ Below w.heap.size w wr) (fun i _ => 4 - (intOf i).toNat)
  case atStart => exact ⟨0, by omega, rfl, R.out.1, R.out.2.1, R.out.2.2⟩
  case round =>
    obtain ⟨j, hj, rfl, r0, r2, hB⟩ := hrel
    by_cases h4 : j < 4
    · have k0 := (r0.cell j).trans (setA_get _ h4)
      have f0 := r0.froz j
      rw [mixP_wd] at k0
      have hw := wd_lt p j
      have hb : bits BinOp.xor IntKind.u64 (if IntKind.u64.signed = true then -1 else IntKind.u64.max) ((wd p j : Nat) : Int) = ((wd r j : Nat) : Int) := by
        rw [← HO.out]; exact xor_all hw
      have hj1 : (j : Int) < 4 := by omega
      have hj0 : (0 : Int) ≤ (j : Int) := by omega
      have RR := Lib.hid (And.intro r0 (And.intro r2 hB))
      clear r0 r2 hB
      go_wp2
      go_roundw
      case rel =>
        obtain ⟨r0, r2, hB⟩ := RR.out
        refine ⟨j + 1, by omega, by go_num, ?_, r2.far (by simp) _, ?_⟩
        · have := r0.set j (.int .u64 ((wd r j : Nat) : Int))
          rw [mixP_set _ _ h4] at this
          exact this
        · repeat (first | (with_reducible exact Below.refl _ _) | (with_reducible refine Below.drew ?_) | (refine Below.setCell ?_ (by first | exact Nat.le_refl _ | (simp; done) | (simp; omega) | omega) _) | (refine Below.alloc ?_ (by first | exact Nat.le_refl _ | (simp; done) | (simp; omega) | omega) _) | (refine Below.trans ?_ (Below.mono (by assumption) (by first | exact Nat.le_refl _ | (simp; done) | (simp; omega) | omega))))
      case measure => simp [intOf]; omega
    · obtain rfl : j = 4 := by omega
      rw [mixP_4] at r0
      have k0 := r0.cell 0
      have k1 := r0.cell 1
      have k2 := r0.cell 2
      have k3 := r0.cell 3
      have z0 := r2.cell 0
      have z1 := r2.cell 1
      have z2 := r2.cell 2
      have z3 := r2.cell 3
      have f0 := r2.froz 0
      have f1 := r2.froz 1
      have f2 := r2.froz 2
      have f3 := r2.froz 3
      have hj1 : ¬ ((4 : Nat) : Int) < 4 := by omega
      simp at k0 k1 k2 k3 z0 z1 z2 z3
      go_wp2
      refine bodyPost_ret (v := setV r) (by simp [results, Try.results27, go_sem, *]) rfl ⟨rfl, ?_⟩
      repeat (first | (with_reducible exact Below.refl _ _) | (with_reducible refine Below.drew ?_) | (refine Below.setCell ?_ (by first | exact Nat.le_refl _ | (simp; done) | (simp; omega) | omega) _) | (refine Below.alloc ?_ (by first | exact Nat.le_refl _ | (simp; done) | (simp; omega) | omega) _) | (refine Below.trans ?_ (Below.mono (by assumption) (by first | exact Nat.le_refl _ | (simp; done) | (simp; omega) | omega))))

set_option maxRecDepth 100000 in
set_option maxHeartbeats 4000000 in
theorem count_u (p : Nat → Bool) (w : World) :
    Calls Try.prog 10 #[setV p] w fun e w' => e = .returned (.int .i64 ((cntP p 256 : Nat) : Int)) ∧ Below w.heap.size w w' := by
  have HC : Hid (∀ j, j < 4 → ∀ w, Calls Try.prog 14 #[.int .u64 ((wd p j : Nat) : Int)] w fun e w' => e = .returned (.int .i64 ((cntP (fun k => p (64 * j + k)) 64 : Nat) : Int)) ∧ w = w') := by
    intro j hj w
    have := ones_u (wd p j) (wd_lt p j) w
    rwa [ones_wd] at this
  have HS : Hid (∀ j, cntP p (64 * (j + 1)) = cntP p (64 * j) + cntP (fun k => p (64 * j + k)) 64) := by
    intro j; rw [Nat.mul_succ, cntP_add]
  have hl := fun j => cntP_le p (64 * j)
  go_enter Try.func10, Try.ntmps10
  go_wp2
  go_loop [3, 7] (fun n i => ∃ j : Nat, j ≤ 4 ∧ i = .int .i64 (j : Int) ∧ n = .int .i64 ((cntP p (64 * j) : Nat) : Int)) (fun n i => 4 - (intOf i).toNat)
  case atStart => exact ⟨0, by omega, rfl, rfl⟩
  case round =>
    obtain ⟨j, hj, rfl, rfl⟩ := hrel
    by_cases h4 : j < 4
    · have hc := HC.out j h4
      have hs := Lib.hid (HS.out j)
      have h1 := hl (j + 1)
      rw [hs.out] at h1
      generalize hx : cntP (fun k => p (64 * j + k)) 64 = x at *
      clear hx
      generalize hy : cntP p (64 * j) = y at *
      have hw : IntKind.i64.wrap ((y : Int) + (x : Int)) = ((y + x : Nat) : Int) := by rw [IntKind.wrap_i64]; omega
      have hj1 : (j : Int) < 4 := by omega
      have hj0 : (0 : Int) ≤ (j : Int) := by omega
      have hg := idx_u p h4
      have HC' : Hid (∀ w, Calls Try.prog 14 #[.int .u64 ((wd p j : Nat) : Int)] w fun e w' => e = .returned (.int .i64 (x : Int)) ∧ w = w') := hc
      clear hc
      go_wp2_with (go_at_call 14; refine (HC'.out _).mono ?_; rintro e w' ⟨rfl, rfl⟩)
      go_round
      case rel => exact ⟨j + 1, by omega, by go_num, by rw [hs.out]; simp⟩
      case measure => simp [intOf]; omega
    · obtain rfl : j = 4 := by omega
      have hj1 : ¬ ((4 : Nat) : Int) < 4 := by omega
      go_wp2
      go_ret
      refine ⟨rfl, ?_⟩
      repeat (first | (with_reducible exact Below.refl _ _) | (with_reducible refine Below.drew ?_) | (refine Below.setCell ?_ (by first | exact Nat.le_refl _ | (simp; done) | (simp; omega) | omega) _) | (refine Below.alloc ?_ (by first | exact Nat.le_refl _ | (simp; done) | (simp; omega) | omega) _) | (refine Below.trans ?_ (Below.mono (by assumption) (by first | exact Nat.le_refl _ | (simp; done) | (simp; omega) | omega))))

theorem or_shl {x r : Nat} (hx : x < 18446744073709551616) (hr : r < 64) : bits BinOp.or IntKind.u64 (x : Int) (IntKind.u64.wrap (2 ^ r)) = ((x ||| 2 ^ r : Nat) : Int) := by
  have hp : 2 ^ r < 18446744073709551616 := Nat.pow_lt_pow_right (n := 64) (by decide) hr
  rw [show ((2 : Int) ^ r) = ((2 ^ r : Nat) : Int) from (Int.natCast_pow 2 r).symm, wrapU (Int.natCast_nonneg _) (Int.ofNat_lt.2 hp)]
  exact bits_or_u64_nat _ _ hx hp
/-- From one number to another. -/
def rngP (a b : Nat) : Nat → Bool := fun x => decide (a ≤ x) && decide (x ≤ b)
def rngQ (a c : Nat) : Nat → Bool := fun x => decide (a ≤ x) && decide (x < c)
theorem rngQ_0 (a : Nat) : setA (rngQ a a) = #[.int .u64 0, .int .u64 0, .int .u64 0, .int .u64 0] := by
  have : setA (rngQ a a) = setA (fun _ => false) := setA_ext fun x _ => by
    unfold rngQ
    by_cases h : a ≤ x
    · simp; try omega
    · simp [h]
  rw [this]; unfold setA
  rw [wd_none, wd_none, wd_none, wd_none]; rfl
theorem rngQ_set {a c : Nat} (hac : a ≤ c) (hc : c < 256) : (setA (rngQ a c)).setIfInBounds (c / 64) (.int .u64 ((wd (rngQ a c) (c / 64) ||| 2 ^ (c % 64) : Nat) : Int)) = setA (rngQ a (c + 1)) := by
  rw [wd_set _ _ _ (Nat.mod_lt _ (by decide)), setA_set _ _ (by omega)]
  refine setA_ext fun x _ => ?_
  rw [Nat.div_add_mod]
  unfold rngQ
  by_cases h1 : x / 64 = c / 64
  · rw [if_pos h1]
    by_cases h2 : x = c
    · subst h2; simp; try omega
    · rw [decide_eq_false h2, Bool.or_false]
      congr 1
      exact decide_eq_decide.2 (by omega)
  · rw [if_neg h1]
    congr 1
    exact decide_eq_decide.2 (by omega)
set_option maxRecDepth 100000 in
set_option maxHeartbeats 4000000 in
theorem range_u (a b : UInt8) (w : World) :
    Calls Try.prog 28 #[bv a, bv b] w fun e w' => e = .returned (setV (rngP a.toNat b.toNat)) ∧ Below w.heap.size w w' := by
  have ha := a.toNat_lt
  have hb := b.toNat_lt
  unfold bv
  generalize a.toNat = a at *
  generalize b.toNat = b at *
  have wa : IntKind.i64.wrap (a : Int) = (a : Int) := by rw [IntKind.wrap_i64]; omega
  have wb : IntKind.i64.wrap (b : Int) = (b : Int) := by rw [IntKind.wrap_i64]; omega
  have H0 := Lib.hid (rngQ_0 a)
  go_enter Try.func28, Try.ntmps28
  go_upto_region 2 with fail
  have r0 : Row (w.alloc (.cells #[.int .u64 0, .int .u64 0, .int .u64 0, .int .u64 0] 26)) w.heap.size 26 #[.int .u64 0, .int .u64 0, .int .u64 0, .int .u64 0] := Row.new w _ _
  have r1 : Row ((w.alloc (.cells #[.int .u64 0, .int .u64 0, .int .u64 0, .int .u64 0] 26)).alloc (.cells #[.int .u64 0, .int .u64 0, .int .u64 0, .int .u64 0] 26)) (w.heap.size + 1) 26 (setA (rngQ a a)) := by
    have := Row.new (w.alloc (.cells #[.int .u64 0, .int .u64 0, .int .u64 0, .int .u64 0] 26)) 26 (setA (rngQ a a))
    rw [H0.out] at this ⊢
    simpa using this
  have r0' := r0.alloc (.cells #[.int .u64 0, .int .u64 0, .int .u64 0, .int .u64 0] 26)
  have hB : Below w.heap.size w ((w.alloc (.cells #[.int .u64 0, .int .u64 0, .int .u64 0, .int .u64 0] 26)).alloc (.cells #[.int .u64 0, .int .u64 0, .int .u64 0, .int .u64 0] 26)) := by repeat (first | (with_reducible exact Below.refl _ _) | (with_reducible refine Below.drew ?_) | (refine Below.setCell ?_ (by first | exact Nat.le_refl _ | (simp; done) | (simp; omega) | omega) _) | (refine Below.alloc ?_ (by first | exact Nat.le_refl _ | (simp; done) | (simp; omega) | omega) _) | (refine Below.trans ?_ (Below.mono (by assumption) (by first | exact Nat.le_refl _ | (simp; done) | (simp; omega) | omega))))
  have R := Lib.hid (And.intro r0' (And.intro r1 hB))
  clear r0 r1 r0' hB H0
  generalize ((w.alloc (.cells #[.int .u64 0, .int .u64 0, .int .u64 0, .int .u64 0] 26)).alloc (.cells #[.int .u64 0, .int .u64 0, .int .u64 0, .int .u64 0] 26)) = w1 at *
  go_wp2
  go_loopw [6] (fun i wr => ∃ c : Nat, a ≤ c ∧ (c ≤ b + 1 ∨ c = a) ∧ i = .int .i64 (c : Int) ∧ Row wr w.heap.size 26 #[.int .u64 0, .int .u64 0, .int .u64 0, .int .u64 0] ∧ Row wr (w.heap.size + 1) 26 (setA (rngQ a c)) ∧ Below w.heap.size w wr) (fun i _ => b + 1 - (intOf i).toNat)
  case atStart => exact ⟨a, Nat.le_refl _, Or.inr rfl, rfl, R.out.1, R.out.2.1, R.out.2.2⟩
  case round =>
    obtain ⟨c, hac, hcb, rfl, r0, r1, hB⟩ := hrel
    by_cases hlt : c ≤ b
    · have hq : c / 64 < 4 := by omega
      have hst := Lib.hid (rngQ_set hac (show c < 256 by omega))
      have k1 := (r1.cell (c / 64)).trans (setA_get _ hq)
      have f1 := r1.froz (c / 64)
      have hwl := wd_lt (rngQ a c) (c / 64)
      have hr : c % 64 < 64 := Nat.mod_lt _ (by decide)
      have hp : 2 ^ (c % 64) < 18446744073709551616 := Nat.pow_lt_pow_right (n := 64) (by decide) hr
      have e1 : ((c : Int).tdiv 64) = ((c / 64 : Nat) : Int) := rfl
      have e2 : ((c : Int).tmod 64) = ((c % 64 : Nat) : Int) := rfl
      have hlt' : (c : Int) ≤ (b : Int) := by omega
      have hq0 : (0 : Int) ≤ ((c / 64 : Nat) : Int) := by omega
      have hq4 : ((c / 64 : Nat) : Int) < 4 := by omega
      have hbo : bits BinOp.or IntKind.u64 ((wd (rngQ a c) (c / 64) : Nat) : Int) (IntKind.u64.wrap (2 ^ (c % 64))) = ((wd (rngQ a c) (c / 64) ||| 2 ^ (c % 64) : Nat) : Int) := or_shl hwl hr
      have RR := Lib.hid (And.intro r0 (And.intro r1 hB))
      clear r0 r1 hB
      generalize wd (rngQ a c) (c / 64) = x at *
      generalize c / 64 = q at *
      generalize c % 64 = r at *
      go_wp2
      go_region
      all_goals
        go_wp2
        go_roundw
        case rel =>
          obtain ⟨r0, r1, hB⟩ := RR.out
          refine ⟨c + 1, by omega, by omega, by go_num, r0.far (by simp) _, ?_, ?_⟩
          · have := r1.set q (.int .u64 ((x ||| 2 ^ r : Nat) : Int))
            rw [hst.out] at this
            exact this
          · repeat (first | (with_reducible exact Below.refl _ _) | (with_reducible refine Below.drew ?_) | (refine Below.setCell ?_ (by first | exact Nat.le_refl _ | (simp; done) | (simp; omega) | omega) _) | (refine Below.alloc ?_ (by first | exact Nat.le_refl _ | (simp; done) | (simp; omega) | omega) _) | (refine Below.trans ?_ (Below.mono (by assumption) (by first | exact Nat.le_refl _ | (simp; done) | (simp; omega) | omega))))
        case measure => simp [intOf]; omega
    · have e : setA (rngQ a c) = setA (rngP a b) := setA_ext fun x _ => by
        unfold rngQ rngP
        by_cases h : a ≤ x
        · rw [decide_eq_true h, Bool.true_and, Bool.true_and]; exact decide_eq_decide.2 (by omega)
        · rw [decide_eq_false h, Bool.false_and, Bool.false_and]
      rw [e] at r1
      have k0 := r1.cell 0
      have k1 := r1.cell 1
      have k2 := r1.cell 2
      have k3 := r1.cell 3
      have z0 := r0.cell 0
      have z1 := r0.cell 1
      have z2 := r0.cell 2
      have z3 := r0.cell 3
      have f0 := r0.froz 0
      have f1 := r0.froz 1
      have f2 := r0.froz 2
      have f3 := r0.froz 3
      have hj1 : ¬ ((c : Int) ≤ (b : Int)) := by omega
      simp at k0 k1 k2 k3 z0 z1 z2 z3
      clear e
      go_wp2
      refine bodyPost_ret (v := setV (rngP a b)) (by simp [results, Try.results28, go_sem, *]) rfl ⟨rfl, ?_⟩
      repeat (first | (with_reducible exact Below.refl _ _) | (with_reducible refine Below.drew ?_) | (refine Below.setCell ?_ (by first | exact Nat.le_refl _ | (simp; done) | (simp; omega) | omega) _) | (refine Below.alloc ?_ (by first | exact Nat.le_refl _ | (simp; done) | (simp; omega) | omega) _) | (refine Below.trans ?_ (Below.mono (by assumption) (by first | exact Nat.le_refl _ | (simp; done) | (simp; omega) | omega))))
end Go.Proofs.Ytfmekmbdienbjaa
