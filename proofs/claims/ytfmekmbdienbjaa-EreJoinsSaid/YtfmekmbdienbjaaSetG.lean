/- The contracts of begins, letter, rangeGoesOn of charset. -/
import Derived.Test.YtfmekmbdienbjaaSetF
namespace Go.Proofs.Ytfmekmbdienbjaa
set_option linter.unusedSimpArgs false
set_option linter.unusedVariables false
set_option linter.unnecessarySimpa false
open Go.RowKit

set_option maxRecDepth 100000 in
theorem equal_v {v v' : Value} {l l' : List UInt8} {w : World} (h : BS w v l) (h' : BS w v' l') :
    Calls Try.prog 45 #[v, v'] w fun e w' => e = .returned (.bool (l == l')) ∧ w = w' := by
  have g := run_str h
  have g' := run_str h'
  clear h h'
  go_enter Try.func45, Try.ntmps45
  go_wp2
  go_ret
  exact ⟨rfl, rfl⟩
set_option maxRecDepth 100000 in
set_option maxHeartbeats 4000000 in
theorem pre_v {v v' : Value} {l l' : List UInt8} {w : World} (h : BS w v l) (h' : BS w v' l') :
    Calls Try.prog 42 #[v, v'] w fun e w' => e = .returned (.bool (decide (l'.length ≤ l.length) && l.take l'.length == l')) ∧ w = w' := by
  obtain ⟨p, c, rfl, hlc, hcm, hU⟩ := h
  by_cases hlt : l'.length ≤ l.length
  · have HB : Hid (BS w (subV p c 0 l'.length) (l.take l'.length)) := by
      have := subV_bs hU hlc hcm (i := 0) (j := l'.length) (Nat.zero_le _) hlt
      show BS _ _ _
      simpa using this
    have hS := run_sub_to p l.length c l'.length (by omega)
    have H' := Lib.hid h'
    have HE : Hid (Calls Try.prog 45 #[subV p c 0 l'.length, v'] w fun e w' => e = .returned (.bool (l.take l'.length == l')) ∧ w = w') := equal_v HB.out H'.out
    have h3 : decide (l'.length ≤ l.length) = true := decide_eq_true hlt
    obtain ⟨p', c', rfl, hlc', hcm', hU'⟩ := h'
    rw [h3, Bool.true_and]
    clear hU hU' HB H'
    generalize (l.take l'.length == l') = b at *
    generalize subV p c 0 l'.length = sv at *
    go_enter Try.func42, Try.ntmps42
    go_wp2_with (go_at_call 45; refine (HE.out).mono ?_; rintro e w' ⟨rfl, rfl⟩)
    go_ret
    exact ⟨rfl, rfl⟩
  · have h3 : decide (l'.length ≤ l.length) = false := decide_eq_false hlt
    obtain ⟨p', c', rfl, hlc', hcm', hU'⟩ := h'
    rw [h3, Bool.false_and]
    clear hU hU'
    go_enter Try.func42, Try.ntmps42
    go_wp2
    go_ret
    exact ⟨rfl, rfl⟩
theorem begL_eq (l : List UInt8) {k : Nat} (hk : k ≤ l.length) : begL l k 91 58 = (decide (([91, 58] : List UInt8).length ≤ (l.drop k).length) && (l.drop k).take ([91, 58] : List UInt8).length == [91, 58]) := by
  unfold begL isL
  rw [List.length_drop]
  show _ = (decide (2 ≤ l.length - k) && (l.drop k).take 2 == [91, 58])
  by_cases h1 : k + 1 < l.length
  · rw [decide_eq_true (by omega : k < l.length), decide_eq_true h1, decide_eq_true (by omega : 2 ≤ l.length - k), drop_u8 l (by omega), drop_u8 l h1]
    simp only [Bool.true_and, List.take_succ_cons, List.take_zero, List.cons_beq_cons, BEq.rfl, Bool.and_true]
  · rw [decide_eq_false h1, decide_eq_false (by omega : ¬ 2 ≤ l.length - k)]; simp

set_option maxRecDepth 100000 in
set_option maxHeartbeats 4000000 in
theorem begins_u {v : Value} {l : List UInt8} {w : World} (h : BS w v l) (k : Nat) (hk : k ≤ l.length) :
    Calls Try.prog 38 #[v, .int .i64 (k : Int), .string ⟨#[91, 58]⟩] w fun e w' => e = .returned (.bool (begL l k 91 58)) ∧ Below w.heap.size w w' := by
  obtain ⟨p, c, rfl, hlc, hcm, hU⟩ := h
  have HS : Hid (BS w (subV p c k l.length) (l.drop k)) := by
    have := subV_bs hU hlc hcm (i := k) (j := l.length) hk (Nat.le_refl _)
    rwa [List.take_of_length_le (by rw [List.length_drop]; exact Nat.le_refl _)] at this
  have hS := run_sub_from p l.length c k hk
  have hcv := fun W => run_cv [91, 58] W
  have HC : Hid (∀ W, Below W.heap.size W (cvW W [91, 58]) ∧ BS (cvW W [91, 58]) (.slice (some ⟨W.heap.size, 0, none⟩) 2 (cvCap W [91, 58])) [91, 58]) := fun W => ⟨cv_below W _, cv_bs W [91, 58] (by simp [maxLen])⟩
  rw [show S8 [91, 58] = ⟨#[91, 58]⟩ from rfl] at hcv
  have HP : Hid (Calls Try.prog 42 #[subV p c k l.length, .slice (some ⟨w.heap.size, 0, none⟩) 2 (cvCap w [91, 58])] (cvW w [91, 58]) fun e w' => e = .returned (.bool (begL l k 91 58)) ∧ cvW w [91, 58] = w') := by
    have := pre_v (HS.out.on (HC.out w).1) (HC.out w).2
    rwa [← begL_eq l hk] at this
  have HB := Lib.hid (HC.out w).1
  clear HC HS hU
  generalize begL l k 91 58 = b at *
  generalize subV p c k l.length = sv at *
  go_enter Try.func38, Try.ntmps38
  go_wp2_with (go_at_call 42; refine (HP.out).mono ?_; rintro e w' ⟨rfl, rfl⟩)
  go_ret
  exact ⟨rfl, HB.out⟩

set_option maxRecDepth 100000 in
set_option maxHeartbeats 4000000 in
theorem goes_u {v : Value} {l : List UInt8} {w : World} (h : BS w v l) (hl : l.length ≤ 1000000000) (k : Nat) (hk : k ≤ 1000000001) :
    Calls Try.prog 41 #[v, .int .i64 (k : Int)] w fun e w' => e = .returned (.bool (goesL l k)) ∧ w = w' := by
  have HI : Hid (Calls Try.prog 35 #[v, .int .i64 (k : Int), .int .u8 45] w fun e w' => e = .returned (.bool (isL l k 45)) ∧ w = w') := is_u h hl k (by omega) 45
  obtain ⟨p, cp, rfl, hlc, hcm, hU⟩ := h
  obtain ⟨b, hb⟩ : ∃ b, b = goesL l k := ⟨_, rfl⟩
  rw [← hb]
  unfold goesL at hb
  have hw : IntKind.i64.wrap ((k : Int) + 1) = (k : Int) + 1 := by rw [IntKind.wrap_i64]; omega
  cases hi : isL l k 45
  · rw [hi] at hb HI
    obtain rfl : b = false := hb
    clear hi hU
    go_enter Try.func41, Try.ntmps41
    go_wp2_with (go_at_call 35; refine (HI.out).mono ?_; rintro e w' ⟨rfl, rfl⟩)
    go_ret
    exact ⟨rfl, rfl⟩
  · rw [hi] at hb HI
    by_cases hlt : k + 1 < l.length
    · obtain ⟨bk, off, rfl, hbb, hcs⟩ := hU (by rintro rfl; simp at hlt)
      have k0 := hcs (k + 1) hlt
      have h1 : (k : Int) + 1 < (l.length : Int) := by omega
      have h2 : (0 : Int) ≤ (k : Int) + 1 := by omega
      have h3 : decide ((k : Int) + 1 < (l.length : Int)) = true := decide_eq_true h1
      have e : (((l.getD (k + 1) 0).toNat : Int) == 93) = !b := by
        rw [hb, decide_eq_true hlt, Bool.true_and, Bool.true_and]
        by_cases hx : l.getD (k + 1) 0 = 93
        · rw [hx]; rfl
        · have : ¬ ((l.getD (k + 1) 0).toNat : Int) = 93 := fun h => hx (UInt8.toNat_inj.1 (by show _ = 93; omega))
          rw [beq_eq_false_iff_ne.2 this, bne_iff_ne.2 hx]; rfl
      have hto : ((k : Int) + 1).toNat = k + 1 := by omega
      clear hcs hb hU hi
      unfold bv at k0
      generalize (l.getD (k + 1) 0).toNat = x at *
      cases b
      all_goals
        simp only [Bool.not_true, Bool.not_false] at e
        go_enter Try.func41, Try.ntmps41
        go_wp2_with (go_at_call 35; refine (HI.out).mono ?_; rintro e w' ⟨rfl, rfl⟩)
        go_ret
        refine ⟨?_, rfl⟩
        show Ending.returned (.bool ((x : Int) != 93)) = _
        rw [bne, e]; rfl
    · obtain rfl : b = false := by rw [hb, decide_eq_false hlt]; rfl
      have h3 : decide ((k : Int) + 1 < (l.length : Int)) = false := decide_eq_false (by omega)
      clear hb hU hi
      go_enter Try.func41, Try.ntmps41
      go_wp2_with (go_at_call 35; refine (HI.out).mono ?_; rintro e w' ⟨rfl, rfl⟩)
      go_ret
      exact ⟨rfl, rfl⟩

set_option maxRecDepth 100000 in
set_option maxHeartbeats 4000000 in
/-- A byte or an escape stands there. -/
theorem letter_ok {v : Value} {l : List UInt8} {w : World} (h : BS w v l) (hl : l.length ≤ 1000000000) (k : Nat) (d : UInt8) (n : Nat) (hr : letL l k = some (d, n)) :
    Calls Try.prog 40 #[v, .int .i64 (k : Int)] w fun e w' => e = .returned (.tuple #[bv d, .int .i64 (n : Int), .nilIface]) ∧ w = w' := by
  obtain ⟨p, cp, rfl, hlc, hcm, hU⟩ := h
  unfold letL at hr
  have hlt : k < l.length := by
    rcases Nat.lt_or_ge k l.length with h | h
    · exact h
    · rw [if_neg (by omega), if_neg (by omega)] at hr; cases hr
  obtain ⟨bk, off, rfl, hbb, hcs⟩ := hU (by rintro rfl; simp at hlt)
  have k0 := hcs k hlt
  have h1 : (k : Int) < (l.length : Int) := by omega
  have h2 : (0 : Int) ≤ (k : Int) := by omega
  have h3 : decide (k < l.length) = true := decide_eq_true hlt
  have w1 : IntKind.i64.wrap ((k : Int) + 1) = (k : Int) + 1 := by rw [IntKind.wrap_i64]; omega
  have w2 : IntKind.i64.wrap ((k : Int) + 2) = (k : Int) + 2 := by rw [IntKind.wrap_i64]; omega
  by_cases hx : l.getD k 0 = 92
  · have hx' : ((l.getD k 0).toNat : Int) = 92 := by rw [hx]; rfl
    rw [if_neg (by intro h; exact h.2 hx)] at hr
    have hk1 : k + 1 < l.length := by
      rcases Nat.lt_or_ge (k + 1) l.length with h | h
      · exact h
      · rw [if_neg (by omega)] at hr; cases hr
    rw [if_pos hk1] at hr
    obtain ⟨rfl, rfl⟩ : escU (l.getD (k + 1) 0) = d ∧ k + 2 = n := by simpa using hr
    have k1 := hcs (k + 1) hk1
    have h4 : (k : Int) + 1 < (l.length : Int) := by omega
    have h5 : (0 : Int) ≤ (k : Int) + 1 := by omega
    have h6 : decide ((k : Int) + 1 < (l.length : Int)) = true := decide_eq_true h4
    have hto : ((k : Int) + 1).toNat = k + 1 := by omega
    have HE : Hid (∀ w, Calls Try.prog 31 #[bv (l.getD (k + 1) 0)] w fun e w' => e = .returned (bv (escU (l.getD (k + 1) 0))) ∧ w = w') := fun w => escape_u _ w
    rw [show bv (l.getD k 0) = .int .u8 92 by unfold bv; rw [hx']] at k0
    rw [show ((k + 2 : Nat) : Int) = (k : Int) + 2 by omega]
    clear hcs hU hr hx hx'
    generalize bv (escU (l.getD (k + 1) 0)) = r at *
    generalize bv (l.getD (k + 1) 0) = y at *
    go_enter Try.func40, Try.ntmps40
    go_wp2_with (go_at_call 31; refine (HE.out _).mono ?_; rintro e w' ⟨rfl, rfl⟩)
    refine bodyPost_ret (v := .tuple #[r, .int .i64 ((k : Int) + 2), .nilIface]) (by simp [results, Try.results40, go_sem, *]) rfl ⟨rfl, ?_⟩
    rfl
  · rw [if_pos ⟨hlt, hx⟩] at hr
    obtain ⟨rfl, rfl⟩ : l.getD k 0 = d ∧ k + 1 = n := by simpa using hr
    have hne : (((l.getD k 0).toNat : Int) == 92) = false := by
      rw [beq_eq_false_iff_ne]; intro h; exact hx (UInt8.toNat_inj.1 (by show _ = 92; omega))
    rw [show ((k + 1 : Nat) : Int) = (k : Int) + 1 by omega]
    clear hcs hU hr hx
    unfold bv at *
    generalize (l.getD k 0).toNat = y at *
    go_enter Try.func40, Try.ntmps40
    go_wp2
    refine bodyPost_ret (v := .tuple #[.int .u8 (y : Int), .int .i64 ((k : Int) + 1), .nilIface]) (by simp [results, Try.results40, go_sem, *]) rfl ⟨rfl, ?_⟩
    rfl
set_option maxRecDepth 100000 in
set_option maxHeartbeats 4000000 in
/-- The bytes end there. -/
theorem letter_bad {v : Value} {l : List UInt8} {w : World} (h : BS w v l) (hl : l.length ≤ 1000000000) (k : Nat) (hk : k ≤ 1000000001) (hr : letL l k = none) :
    Calls Try.prog 40 #[v, .int .i64 (k : Int)] w fun e w' => (∃ b, e = .returned (.tuple #[.int .u8 0, .int .i64 0, .iface 47 (.pointer (some ⟨b, 0, none⟩))]) ∧ w.heap.size ≤ b ∧ Row w' b 49 #[.int .i64 (l.length : Int), .iface 41 (.int .i64 ((7 : Nat) : Int))]) ∧ Below w.heap.size w w' := by
  have HF : Hid (∀ w, Calls Try.prog 34 #[.int .i64 (l.length : Int), .int .i64 7] w fun e w' => e = .returned (.iface 47 (.pointer (some ⟨w.heap.size, 0, none⟩))) ∧ w' = w.alloc (.cells #[.int .i64 (l.length : Int), .iface 41 (.int .i64 7)] 49)) := fun w => fault_u l.length 7 w
  have HB : Hid (Below w.heap.size w (w.alloc (.cells #[.int .i64 (l.length : Int), .iface 41 (.int .i64 7)] 49)) ∧ Row (w.alloc (.cells #[.int .i64 (l.length : Int), .iface 41 (.int .i64 7)] 49)) w.heap.size 49 #[.int .i64 (l.length : Int), .iface 41 (.int .i64 7)]) := ⟨(Below.refl _ _).alloc (Nat.le_refl _) _, Row.new w _ _⟩
  obtain ⟨p, cp, rfl, hlc, hcm, hU⟩ := h
  unfold letL at hr
  have w1 : IntKind.i64.wrap ((k : Int) + 1) = (k : Int) + 1 := by rw [IntKind.wrap_i64]; omega
  have hk1 : ¬ k + 1 < l.length := by
    intro h; rw [if_pos h] at hr; split at hr <;> cases hr
  have h6 : decide ((k : Int) + 1 < (l.length : Int)) = false := decide_eq_false (by omega)
  by_cases hlt : k < l.length
  · obtain ⟨bk, off, rfl, hbb, hcs⟩ := hU (by rintro rfl; simp at hlt)
    have k0 := hcs k hlt
    have h1 : (k : Int) < (l.length : Int) := by omega
    have h2 : (0 : Int) ≤ (k : Int) := by omega
    have h3 : decide (k < l.length) = true := decide_eq_true hlt
    have hx : l.getD k 0 = 92 := by
      rcases Decidable.em (l.getD k 0 = 92) with h | h
      · exact h
      · rw [if_pos ⟨hlt, h⟩] at hr; cases hr
    rw [show bv (l.getD k 0) = .int .u8 92 by unfold bv; rw [hx]; rfl] at k0
    clear hcs hU hr hx
    go_enter Try.func40, Try.ntmps40
    go_wp2_with (go_at_call 34; refine (HF.out _).mono ?_; rintro e w' ⟨rfl, rfl⟩)
    refine bodyPost_ret (v := .tuple #[.int .u8 0, .int .i64 0, .iface 47 (.pointer (some ⟨w.heap.size, 0, none⟩))]) (by simp [results, Try.results40, go_sem, *]) rfl ?_
    exact ⟨⟨_, rfl, Nat.le_refl _, HB.out.2⟩, HB.out.1⟩
  · have h3 : decide (k < l.length) = false := decide_eq_false hlt
    clear hU hr
    go_enter Try.func40, Try.ntmps40
    go_wp2_with (go_at_call 34; refine (HF.out _).mono ?_; rintro e w' ⟨rfl, rfl⟩)
    refine bodyPost_ret (v := .tuple #[.int .u8 0, .int .i64 0, .iface 47 (.pointer (some ⟨w.heap.size, 0, none⟩))]) (by simp [results, Try.results40, go_sem, *]) rfl ?_
    exact ⟨⟨_, rfl, Nat.le_refl _, HB.out.2⟩, HB.out.1⟩
end Go.Proofs.Ytfmekmbdienbjaa
