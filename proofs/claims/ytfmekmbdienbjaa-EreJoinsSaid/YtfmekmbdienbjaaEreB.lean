/- Layer 4: the contracts of fault, is, bounded, number, interval. -/
import Derived.Test.YtfmekmbdienbjaaEreA
namespace Go.Proofs.Ytfmekmbdienbjaa
set_option linter.unusedSimpArgs false
set_option linter.unusedVariables false
set_option linter.unnecessarySimpa false
open Go.RowKit

theorem efault_u (a c : Nat) (w : World) :
    Calls Try.prog 11 #[.int .i64 (a : Int), .int .i64 (c : Int)] w fun e w' => e = .returned (.iface 47 (.pointer (some ⟨w.heap.size, 0, none⟩))) ∧ w' = w.alloc (.cells #[.int .i64 (a : Int), .iface 41 (.int .i64 (c : Int))] 49) := by
  go_enter Try.func11, Try.ntmps11
  go_wp2
  go_ret
  exact ⟨rfl, rfl⟩

set_option maxRecDepth 100000 in
set_option maxHeartbeats 4000000 in
theorem eis_u {v : Value} {l : List UInt8} {w : World} (h : BS w v l) (hl : l.length ≤ 1000000000) (k : Nat) (hk : k ≤ 2000000000) (c : UInt8) :
    Calls Try.prog 16 #[v, .int .i64 (k : Int), bv c] w fun e w' => e = .returned (.bool (isL l k c)) ∧ w = w' := by
  obtain ⟨p, cp, rfl, hlc, hcm, hU⟩ := h
  obtain ⟨b, hb⟩ : ∃ b, b = isL l k c := ⟨_, rfl⟩
  rw [← hb]
  by_cases hlt : k < l.length
  · obtain ⟨bk, off, rfl, hbb, hcs⟩ := hU (by rintro rfl; simp at hlt)
    have k0 := hcs k hlt
    have h1 : (k : Int) < (l.length : Int) := by omega
    have h2 : (0 : Int) ≤ (k : Int) := by omega
    have h3 : decide (k < l.length) = true := decide_eq_true hlt
    have e : (((l.getD k 0).toNat : Int) == (c.toNat : Int)) = b := by
      rw [hb]; unfold isL; rw [h3, Bool.true_and]
      by_cases hx : l.getD k 0 = c
      · rw [hx]; simp
      · have : ¬ ((l.getD k 0).toNat : Int) = (c.toNat : Int) := fun h => hx (UInt8.toNat_inj.1 (by exact_mod_cast h))
        rw [beq_eq_false_iff_ne.2 this, beq_eq_false_iff_ne.2 hx]
    clear hcs hb hU
    unfold bv at k0 ⊢
    generalize (l.getD k 0).toNat = x at *
    generalize c.toNat = y at *
    go_enter Try.func16, Try.ntmps16
    go_wp2
    go_ret
    exact ⟨rfl, rfl⟩
  · have hf : b = false := by rw [hb]; unfold isL; rw [decide_eq_false hlt]; rfl
    subst hf
    have h3 : decide (k < l.length) = false := decide_eq_false hlt
    clear hb hU
    go_enter Try.func16, Try.ntmps16
    go_wp2
    go_ret
    exact ⟨rfl, rfl⟩

set_option maxRecDepth 100000 in
set_option maxHeartbeats 4000000 in
theorem bnd_u (a b : Int) (w : World) :
    Calls Try.prog 33 #[.int .i64 a, .int .i64 b] w fun e w' => e = .returned (.bool (boundsB a b)) ∧ w = w' := by
  obtain ⟨r, hr⟩ : ∃ r, r = boundsB a b := ⟨_, rfl⟩
  rw [← hr]
  unfold boundsB at hr
  by_cases h1 : a < 0
  · have t1 : decide (a < 0) = true := decide_eq_true h1
    obtain rfl : r = false := by rw [hr, decide_eq_false (by omega : ¬ 0 ≤ a)]; rfl
    clear hr
    go_enter Try.func33, Try.ntmps33
    go_wp2
    go_ret
    exact ⟨rfl, rfl⟩
  · have t1 : decide (a < 0) = false := decide_eq_false h1
    by_cases h2 : 255 < a
    · have t2 : decide (255 < a) = true := decide_eq_true h2
      obtain rfl : r = false := by rw [hr, decide_eq_false (by omega : ¬ a ≤ 255), Bool.and_false]; rfl
      clear hr
      go_enter Try.func33, Try.ntmps33
      go_wp2
      go_ret
      exact ⟨rfl, rfl⟩
    · have t2 : decide (255 < a) = false := decide_eq_false h2
      rw [decide_eq_true (by omega : 0 ≤ a), decide_eq_true (by omega : a ≤ 255), Bool.true_and, Bool.true_and] at hr
      by_cases h3 : b = -1
      · obtain rfl : r = true := by rw [hr, decide_eq_true h3]; rfl
        subst h3
        clear hr
        go_enter Try.func33, Try.ntmps33
        go_wp2
        go_ret
        exact ⟨rfl, rfl⟩
      · have t3 : (b == -1) = false := beq_eq_false_iff_ne.2 h3
        rw [decide_eq_false h3, Bool.false_or] at hr
        by_cases h4 : a ≤ b
        · have t4 : decide (a ≤ b) = true := decide_eq_true h4
          rw [t4, Bool.true_and] at hr
          clear h3
          go_enter Try.func33, Try.ntmps33
          go_wp2
          go_ret
          exact ⟨rfl, rfl⟩
        · have t4 : decide (a ≤ b) = false := decide_eq_false h4
          obtain rfl : r = false := by rw [hr, t4]; rfl
          clear hr h3
          go_enter Try.func33, Try.ntmps33
          go_wp2
          go_ret
          exact ⟨rfl, rfl⟩

set_option maxRecDepth 100000 in
set_option maxHeartbeats 8000000 in
theorem num_u {v : Value} {l : List UInt8} {w : World} (h : BS w v l) (hl : l.length ≤ 1000000000) (k : Nat) (hk : k ≤ l.length) :
    Calls Try.prog 32 #[v, .int .i64 (k : Int)] w fun e w' => e = .returned (.tuple #[.int .i64 ((numL l k).1 : Int), .int .i64 ((numL l k).2 : Int)]) ∧ w = w' := by
  obtain ⟨p, cp, rfl, hlc, hcm, hU⟩ := h
  have HU := Lib.hid hU
  clear hU
  go_enter Try.func32, Try.ntmps32
  go_wp2
  go_loopw [1, 4, 6] (fun t1 t4 t6 wr => ∃ j n m : Nat, j ≤ 3 ∧ t6 = .int .i64 (j : Int) ∧ t1 = .int .i64 (n : Int) ∧ t4 = .int .i64 (m : Int) ∧ n ≤ l.length ∧ m + 1 ≤ 10 ^ j ∧ Hid (numK l (3 - j) n m = numL l k) ∧ wr = w) (fun _ _ t6 _ => 3 - (intOf t6).toNat)
  case atStart => exact ⟨0, k, 0, by omega, rfl, rfl, rfl, hk, by omega, rfl, rfl⟩
  case round =>
    obtain ⟨j, n, m, hj, rfl, rfl, rfl, hn, hm, hq, rfl⟩ := hrel
    have hm3 : m ≤ 999 := by
      have : 10 ^ j ≤ 10 ^ 3 := Nat.pow_le_pow_right (by omega) hj
      omega
    by_cases hj3 : j = 3
    · subst hj3
      have hq' := hq.out
      simp only [Nat.sub_self, numK] at hq'
      have HQ := Lib.hid hq'
      clear hq hq'
      go_wp2
      rw [← HQ.out]
      refine bodyPost_ret (v := .tuple #[.int .i64 (m : Int), .int .i64 (n : Int)]) (by simp [results, Try.results32, go_sem, *]) rfl ⟨rfl, ?_⟩
      rfl
    · have tj : decide ((j : Int) < 3) = true := decide_eq_true (by omega)
      have hq' := hq.out
      rw [show 3 - j = (3 - (j + 1)) + 1 by omega] at hq'
      unfold numK at hq'
      by_cases hlt : n < l.length
      · obtain ⟨bk, off, rfl, hbb, hcs⟩ := HU.out (by rintro rfl; simp at hlt)
        have k0 := hcs n hlt
        have h1 : (n : Int) < (l.length : Int) := by omega
        have h2 : (0 : Int) ≤ (n : Int) := by omega
        have t0 : ((n : Int) == (l.length : Int)) = false := by rw [beq_eq_false_iff_ne]; omega
        have hx := (l.getD n 0).toNat_lt
        unfold bv at k0
        by_cases ha : (l.getD n 0).toNat < 48
        · have ta : decide (((l.getD n 0).toNat : Int) < 48) = true := decide_eq_true (by omega)
          have ta' : decide ((l.getD n 0).toNat < 48) = true := decide_eq_true ha
          rw [if_neg (by omega)] at hq'
          have HQ := Lib.hid hq'
          clear hq hq' hcs HU
          generalize (l.getD n 0).toNat = x at *
          go_wp2
          rw [← HQ.out]
          refine bodyPost_ret (v := .tuple #[.int .i64 (m : Int), .int .i64 (n : Int)]) (by simp [results, Try.results32, go_sem, *]) rfl ⟨rfl, ?_⟩
          rfl
        · have ta : decide (((l.getD n 0).toNat : Int) < 48) = false := decide_eq_false (by omega)
          have ta' : decide ((l.getD n 0).toNat < 48) = false := decide_eq_false ha
          by_cases hb : 57 < (l.getD n 0).toNat
          · have tb : decide ((57 : Int) < ((l.getD n 0).toNat : Int)) = true := decide_eq_true (by omega)
            have tb' : decide (57 < (l.getD n 0).toNat) = true := decide_eq_true hb
            rw [if_neg (by omega)] at hq'
            have HQ := Lib.hid hq'
            clear hq hq' hcs HU
            generalize (l.getD n 0).toNat = x at *
            go_wp2
            rw [← HQ.out]
            refine bodyPost_ret (v := .tuple #[.int .i64 (m : Int), .int .i64 (n : Int)]) (by simp [results, Try.results32, go_sem, *]) rfl ⟨rfl, ?_⟩
            rfl
          · have tb : decide ((57 : Int) < ((l.getD n 0).toNat : Int)) = false := decide_eq_false (by omega)
            have tb' : decide (57 < (l.getD n 0).toNat) = false := decide_eq_false hb
            rw [if_pos ⟨hlt, by omega, by omega⟩] at hq'
            have HQ := Lib.hid hq'
            have hp : (10 * m + ((l.getD n 0).toNat - 48)) + 1 ≤ 10 ^ (j + 1) := by rw [Nat.pow_succ]; omega
            have HP := Lib.hid hp
            clear hq hq' hcs HU hm hp
            generalize (l.getD n 0).toNat = x at *
            have w1 : IntKind.u8.wrap ((x : Int) - 48) = (x : Int) - 48 := by rw [IntKind.wrap_u8]; omega
            have w2 : IntKind.i64.wrap ((x : Int) - 48) = (x : Int) - 48 := by rw [IntKind.wrap_i64]; omega
            have w3 : IntKind.i64.wrap (10 * (m : Int)) = 10 * (m : Int) := by rw [IntKind.wrap_i64]; omega
            have w4 : IntKind.i64.wrap (10 * (m : Int) + ((x : Int) - 48)) = 10 * (m : Int) + ((x : Int) - 48) := by rw [IntKind.wrap_i64]; omega
            have w5 : IntKind.i64.wrap ((n : Int) + 1) = (n : Int) + 1 := by rw [IntKind.wrap_i64]; omega
            go_wp2
            go_roundw
            case rel => exact ⟨j + 1, n + 1, 10 * m + (x - 48), by omega, by go_num, by go_num, by go_num, by omega, HP.out, HQ.out, trivial⟩
            case measure => simp [intOf]; omega
      · have t0 : ((n : Int) == (l.length : Int)) = true := by rw [beq_iff_eq]; omega
        rw [if_neg (by omega)] at hq'
        have HQ := Lib.hid hq'
        clear hq hq' HU
        go_wp2
        rw [← HQ.out]
        refine bodyPost_ret (v := .tuple #[.int .i64 (m : Int), .int .i64 (n : Int)]) (by simp [results, Try.results32, go_sem, *]) rfl ⟨rfl, ?_⟩
        rfl
end Go.Proofs.Ytfmekmbdienbjaa
