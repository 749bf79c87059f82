/- The walk of the statement DecOrders: both numbers right, the second one not 0. -/
import Derived.Test.YtanfgolelhmdhaaDecX
import Derived.Test.YtanfgolelhmdhaaDecUnitsB
import Derived.Test.YtanfgolelhmdhaaDecSigns
import Derived.Test.YtanfgolelhmdhaaDecTruncsM
import Derived.Test.YtanfgolelhmdhaaLin
namespace Go.Proofs.Ytanfgolelhmdhaa
set_option linter.unusedSimpArgs false
set_option linter.unusedVariables false
set_option linter.unnecessarySimpa false
open Go.RowKit

theorem cmp_flip (x y : Int) : cmpZ x y = -cmpZ y x := by
  unfold cmpZ
  by_cases h : x = y
  · rw [if_pos h, if_pos h.symm]; rfl
  · by_cases h2 : x < y
    · rw [if_neg h, if_neg (Ne.symm h), if_pos h2, if_neg (by omega)]
    · rw [if_neg h, if_neg (Ne.symm h), if_neg h2, if_pos (by omega)]; rfl
theorem cmp_bd (x y : Int) : -1 ≤ cmpZ x y ∧ cmpZ x y ≤ 1 := by
  unfold cmpZ; split
  · omega
  · split <;> omega
theorem sub_self_w {x : Int} (hx : x.natAbs < topN) : ∀ w, Calls Try.prog 14 #[ZV x, ZV x] w fun e w' => e = .returned (.tuple #[ZV 0, .nilIface]) ∧ Below w.heap.size w w' := by
  intro w
  have k := sub_z x x hx hx w
  rw [show x - x = 0 from by omega, fitR_0 zero_top] at k
  exact k
theorem tmod_le {x : Int} (y : Int) : (x.tmod y).natAbs ≤ x.natAbs := by
  rw [Int.natAbs_tmod]; exact Nat.mod_le _ _
theorem left_abs (x y : Int) : (x - x.tmod y).natAbs ≤ x.natAbs := by
  have h := tmod_le (x := x) y
  by_cases hx : 0 ≤ x
  · have := Int.tmod_nonneg y hx; omega
  · have h1 := Int.neg_tmod x y
    have := Int.tmod_nonneg (a := -x) y (by omega); omega
theorem left_mod (x y : Int) : (x - x.tmod y).tmod y = 0 := by
  have := Int.tmod_add_mul_tdiv x y
  rw [show x - x.tmod y = y * x.tdiv y from by omega]
  exact Int.mul_tmod_right y (x.tdiv y)

set_option maxHeartbeats 4000000 in
theorem orders_ok (x y : Int) (hx : x.natAbs < topN) (hy : y.natAbs < topN) (h0 : y ≠ 0) (w : World) :
    Calls Try.prog 7 #[ZV x, ZV y] w fun e w' => e = .returned (.bool true) ∧ Below w.heap.size w w' := by
  have hd : (x - x.tmod y).natAbs < topN := Nat.lt_of_le_of_lt (left_abs x y) hx
  have hm : (x.tmod y).natAbs < topN := Nat.lt_of_le_of_lt (tmod_le y) hx
  have C0 := Lib.hid awake_t
  have A1 : Hid (∀ w, Calls Try.prog 13 #[ZV x, ZV y] w fun e w' => e = .returned (.tuple #[ZV (fitZ (x + y)), errV (fitC (x + y).natAbs)]) ∧ Below w.heap.size w w') := add_z x y hx hy
  have A2 : Hid (∀ w, Calls Try.prog 13 #[ZV y, ZV x] w fun e w' => e = .returned (.tuple #[ZV (fitZ (x + y)), errV (fitC (x + y).natAbs)]) ∧ Below w.heap.size w w') := by rw [Int.add_comm]; exact add_z y x hy hx
  have M1 : Hid (∀ w, Calls Try.prog 24 #[ZV x, ZV y] w fun e w' => e = .returned (.tuple #[ZV (fitZ ((x * y).tdiv 1000000)), errV (fitC ((x * y).tdiv 1000000).natAbs)]) ∧ Below w.heap.size w w') := mul_z x y hx hy
  have M2 : Hid (∀ w, Calls Try.prog 24 #[ZV y, ZV x] w fun e w' => e = .returned (.tuple #[ZV (fitZ ((x * y).tdiv 1000000)), errV (fitC ((x * y).tdiv 1000000).natAbs)]) ∧ Below w.heap.size w w') := by rw [Int.mul_comm]; exact mul_z y x hy hx
  have K1 := Lib.hid (code_v (fitC (x + y).natAbs) (fitC_le _))
  have K2 := Lib.hid (code_v (fitC ((x * y).tdiv 1000000).natAbs) (fitC_le _))
  have G1 := Lib.hid (good_z' hx)
  have G2 := Lib.hid (good_z' hy)
  have S1 := Lib.hid (sub_self_w hx)
  have P1 : Hid (∀ w, Calls Try.prog 18 #[ZV x, ZV y] w fun e w' => e = .returned (.int .i64 (-cmpZ y x)) ∧ Below w.heap.size w w') := by rw [← cmp_flip]; exact cmp_z x y hx hy
  have P2 := Lib.hid (cmp_z y x hy hx)
  have D1 : Hid (∀ w, Calls Try.prog 26 #[ZV x, ZV y] w fun e w' => e = .returned (.tuple #[ZV (x.tmod y), .nilIface]) ∧ Below w.heap.size w w') := mod_z x y hx hy h0
  have D2 : Hid (∀ w, Calls Try.prog 14 #[ZV x, ZV (x.tmod y)] w fun e w' => e = .returned (.tuple #[ZV (x - x.tmod y), .nilIface]) ∧ Below w.heap.size w w') := by
    intro w
    have k := sub_z x (x.tmod y) hx hm w
    rw [fitR_0 hd] at k
    exact k
  have D3 : Hid (∀ w, Calls Try.prog 26 #[ZV (x - x.tmod y), ZV y] w fun e w' => e = .returned (.tuple #[ZV 0, .nilIface]) ∧ Below w.heap.size w w') := by
    intro w
    have k := mod_z (x - x.tmod y) y hd hy h0 w
    rw [left_mod] at k
    exact k
  have bc := cmp_bd y x
  clear hx hy h0 hd hm
  generalize fitC ((x * y).tdiv 1000000).natAbs = k2 at *
  generalize fitZ ((x * y).tdiv 1000000) = p at *
  generalize fitC (x + y).natAbs = k1 at *
  generalize fitZ (x + y) = s at *
  generalize x - x.tmod y = d at *
  generalize x.tmod y = m at *
  generalize cmpZ y x = cy at *
  obtain ⟨b1, b2⟩ := bc
  have wr : IntKind.i64.wrap (-cy) = -cy := by rw [IntKind.wrap_i64]; omega
  have wr2 : wrap64 (-cy) = -cy := by unfold wrap64; omega
  have q1 : eqM (negZ s) s.natAbs (negZ s) s.natAbs = true := by rw [eqM_z]; simp
  have q2 : eqM (negZ p) p.natAbs (negZ p) p.natAbs = true := by rw [eqM_z]; simp
  have e1 := neq_mm (negZ s) (negZ s) s.natAbs s.natAbs
  have e2 := neq_mm (negZ p) (negZ p) p.natAbs p.natAbs
  have e3 : ∀ w, (binOp .neq 24 (ZV 0) (.agg #[.bool false, .int .u64 0, .int .u64 0])).run Try.prog w = .ok (.bool false) w := neq_mm false false 0 0
  have e4 : ∀ w, (binOp .eql 24 (ZV 0) (.agg #[.bool false, .int .u64 0, .int .u64 0])).run Try.prog w = .ok (.bool true) w := eql_mm false false 0 0
  rw [q1] at e1
  rw [q2] at e2
  clear q1 q2
  go_enter Try.func7, Try.ntmps7
  go_wp2_with fail; refine (C0.out _).mono ?_; rintro ew1 w1 ⟨rfl, hbw1⟩; obtain ⟨hcw1, hfw1⟩ := bcell hbw1; (try simp only [World.size_drew, World.cell?_drew, World.frozen?_drew] at hcw1 hfw1); have hzw1 := hbw1.size; (try simp at hzw1); have : w.heap.size < w1.heap.size := (by omega); have : w.heap.size + 1 < w1.heap.size := (by omega); (try dsimp only)
  go_wp2_with fail; refine (A1.out _).mono ?_; rintro ew2 w2 ⟨rfl, hbw2⟩; obtain ⟨hcw2, hfw2⟩ := bcell hbw2; (try simp only [World.size_drew, World.cell?_drew, World.frozen?_drew] at hcw2 hfw2); have hzw2 := hbw2.size; (try simp at hzw2); have : w.heap.size < w2.heap.size := (by omega); have : w.heap.size + 1 < w2.heap.size := (by omega); (try dsimp only)
  go_wp2_with fail; refine (A2.out _).mono ?_; rintro ew3 w3 ⟨rfl, hbw3⟩; obtain ⟨hcw3, hfw3⟩ := bcell hbw3; (try simp only [World.size_drew, World.cell?_drew, World.frozen?_drew] at hcw3 hfw3); have hzw3 := hbw3.size; (try simp at hzw3); have : w.heap.size < w3.heap.size := (by omega); have : w.heap.size + 1 < w3.heap.size := (by omega); have : w2.heap.size < w3.heap.size := (by omega); (try dsimp only)
  go_wp2_with fail; refine (M1.out _).mono ?_; rintro ew4 w4 ⟨rfl, hbw4⟩; obtain ⟨hcw4, hfw4⟩ := bcell hbw4; (try simp only [World.size_drew, World.cell?_drew, World.frozen?_drew] at hcw4 hfw4); have hzw4 := hbw4.size; (try simp at hzw4); have : w.heap.size < w4.heap.size := (by omega); have : w.heap.size + 1 < w4.heap.size := (by omega); have : w2.heap.size < w4.heap.size := (by omega); have : w3.heap.size < w4.heap.size := (by omega); (try dsimp only)
  go_wp2_with fail; refine (M2.out _).mono ?_; rintro ew5 w5 ⟨rfl, hbw5⟩; obtain ⟨hcw5, hfw5⟩ := bcell hbw5; (try simp only [World.size_drew, World.cell?_drew, World.frozen?_drew] at hcw5 hfw5); have hzw5 := hbw5.size; (try simp at hzw5); have : w.heap.size < w5.heap.size := (by omega); have : w.heap.size + 1 < w5.heap.size := (by omega); have : w2.heap.size < w5.heap.size := (by omega); have : w3.heap.size < w5.heap.size := (by omega); have : w4.heap.size < w5.heap.size := (by omega); (try dsimp only)
  go_wp2_with fail
  refine (K1.out _).mono ?_; rintro ek1 wk1 ⟨rfl, rfl⟩
  go_wp2_with fail
  refine (K1.out _).mono ?_; rintro ek2 wk2 ⟨rfl, rfl⟩
  go_wp2_with fail
  refine (K2.out _).mono ?_; rintro ek3 wk3 ⟨rfl, rfl⟩
  go_wp2_with fail
  refine (K2.out _).mono ?_; rintro ek4 wk4 ⟨rfl, rfl⟩
  go_wp2_with fail; refine (G1.out _).mono ?_; rintro ew6 w6 ⟨rfl, hbw6⟩; obtain ⟨hcw6, hfw6⟩ := bcell hbw6; (try simp only [World.size_drew, World.cell?_drew, World.frozen?_drew] at hcw6 hfw6); have hzw6 := hbw6.size; (try simp at hzw6); have : w.heap.size < w6.heap.size := (by omega); have : w.heap.size + 1 < w6.heap.size := (by omega); (try dsimp only)
  go_wp2_with fail; refine (G2.out _).mono ?_; rintro ew7 w7 ⟨rfl, hbw7⟩; obtain ⟨hcw7, hfw7⟩ := bcell hbw7; (try simp only [World.size_drew, World.cell?_drew, World.frozen?_drew] at hcw7 hfw7); have hzw7 := hbw7.size; (try simp at hzw7); have : w.heap.size < w7.heap.size := (by omega); have : w.heap.size + 1 < w7.heap.size := (by omega); (try dsimp only)
  go_wp2_with fail; refine (S1.out _).mono ?_; rintro ew8 w8 ⟨rfl, hbw8⟩; obtain ⟨hcw8, hfw8⟩ := bcell hbw8; (try simp only [World.size_drew, World.cell?_drew, World.frozen?_drew] at hcw8 hfw8); have hzw8 := hbw8.size; (try simp at hzw8); have : w.heap.size < w8.heap.size := (by omega); have : w.heap.size + 1 < w8.heap.size := (by omega); (try dsimp only)
  go_wp2_with fail
  have : w.heap.size < w8.heap.size + 1 := by omega
  have : w.heap.size + 1 < w8.heap.size + 1 := by omega
  refine wp_region_keep (t := fun j => j) (loud := fun _ => false)
    (R := fun j v u w' => match j with
      | 0 => v = ZV 0
      | 1 => v = .agg #[.bool false, .int .u64 0, .int .u64 0]
      | 2 => v = .bool false
      | 3 => v = .bool false
      | 4 => v = ZV x
      | 5 => v = ZV y
      | 6 => v = .int .i64 (-cy)
      | 7 => v = ZV y
      | 8 => v = ZV x
      | 9 => v = .int .i64 cy
      | 10 => v = .int .i64 (-cy)
      | 11 => v = .bool false
      | 12 => v = .bool false
      | _ => True) (by kernel_rfl) (by kernel_rfl) ?_ ?_ ?_
  · intro j v u w1_ w2_ h_ hF_ hB_
    (try dsimp only at h_ ⊢)
    split at h_ <;> first | exact h_ | exact NewR.on h_ hB_ | exact HasR.on h_ hB_ | trivial
  · intro vs
    simp only [putAll, Act.put, List.setIfInBounds_toArray, List.set_cons_zero, List.set_cons_succ, Nat.zero_add, Nat.reduceAdd]
    refine ⟨?_, ?_, ?_, ?_, ?_, ?_, ?_, ?_, ?_, ?_, ?_, ?_, ?_, trivial⟩
    · intro w0_ hF_ hd_ Q_ K_ hK_
      have hc0_ := (bcell hF_).1
      have hf0_ := (bcell hF_).2
      have hz0_ := hF_.size; (try simp at hz0_)
      (try simp at hc0_ hf0_)
      have : w.heap.size < w0_.heap.size := by omega
      have : w.heap.size + 1 < w0_.heap.size := by omega
      have : w8.heap.size < w0_.heap.size := by omega
      simp only [DepsR, Region.binds, Nat.zero_add, Nat.reduceAdd, true_implies, Bool.false_eq_true, false_implies, and_true, true_and, BEq.rfl, reduceCtorEq] at hd_
      go_simp
      exact hK_.out _ _ _ (by first | rfl | (simp only [Act.put, List.setIfInBounds_toArray, List.set_cons_zero, List.set_cons_succ, hd_]; done) | (simp only [Act.put, List.setIfInBounds_toArray, List.set_cons_zero, List.set_cons_succ, hd_]; rfl)) (Below.refl _ _) rfl
    · intro w0_ hF_ hd_ Q_ K_ hK_
      have hc0_ := (bcell hF_).1
      have hf0_ := (bcell hF_).2
      have hz0_ := hF_.size; (try simp at hz0_)
      (try simp at hc0_ hf0_)
      have : w.heap.size < w0_.heap.size := by omega
      have : w.heap.size + 1 < w0_.heap.size := by omega
      have : w8.heap.size < w0_.heap.size := by omega
      simp only [DepsR, Region.binds, Nat.zero_add, Nat.reduceAdd, true_implies, Bool.false_eq_true, false_implies, and_true, true_and, BEq.rfl, reduceCtorEq] at hd_
      go_simp
      exact hK_.out _ _ _ (by first | rfl | (simp only [Act.put, List.setIfInBounds_toArray, List.set_cons_zero, List.set_cons_succ, hd_]; done) | (simp only [Act.put, List.setIfInBounds_toArray, List.set_cons_zero, List.set_cons_succ, hd_]; rfl)) (Below.refl _ _) rfl
    · intro w0_ hF_ hd_ Q_ K_ hK_
      have hc0_ := (bcell hF_).1
      have hf0_ := (bcell hF_).2
      have hz0_ := hF_.size; (try simp at hz0_)
      (try simp at hc0_ hf0_)
      have : w.heap.size < w0_.heap.size := by omega
      have : w.heap.size + 1 < w0_.heap.size := by omega
      have : w8.heap.size < w0_.heap.size := by omega
      simp only [DepsR, Region.binds, Nat.zero_add, Nat.reduceAdd, true_implies, Bool.false_eq_true, false_implies, and_true, true_and, BEq.rfl, reduceCtorEq] at hd_
      go_simp
      exact hK_.out _ _ _ (by first | rfl | (simp only [Act.put, List.setIfInBounds_toArray, List.set_cons_zero, List.set_cons_succ, hd_]; done) | (simp only [Act.put, List.setIfInBounds_toArray, List.set_cons_zero, List.set_cons_succ, hd_]; rfl)) (Below.refl _ _) rfl
    · intro w0_ hF_ hd_ Q_ K_ hK_
      have hc0_ := (bcell hF_).1
      have hf0_ := (bcell hF_).2
      have hz0_ := hF_.size; (try simp at hz0_)
      (try simp at hc0_ hf0_)
      have : w.heap.size < w0_.heap.size := by omega
      have : w.heap.size + 1 < w0_.heap.size := by omega
      have : w8.heap.size < w0_.heap.size := by omega
      simp only [DepsR, Region.binds, Nat.zero_add, Nat.reduceAdd, true_implies, Bool.false_eq_true, false_implies, and_true, true_and, BEq.rfl, reduceCtorEq] at hd_
      go_simp
      exact hK_.out _ _ _ (by first | rfl | (simp only [Act.put, List.setIfInBounds_toArray, List.set_cons_zero, List.set_cons_succ, hd_]; done) | (simp only [Act.put, List.setIfInBounds_toArray, List.set_cons_zero, List.set_cons_succ, hd_]; rfl)) (Below.refl _ _) rfl
    · intro w0_ hF_ hd_ Q_ K_ hK_
      have hc0_ := (bcell hF_).1
      have hf0_ := (bcell hF_).2
      have hz0_ := hF_.size; (try simp at hz0_)
      (try simp at hc0_ hf0_)
      have : w.heap.size < w0_.heap.size := by omega
      have : w.heap.size + 1 < w0_.heap.size := by omega
      have : w8.heap.size < w0_.heap.size := by omega
      simp only [DepsR, Region.binds, Nat.zero_add, Nat.reduceAdd, true_implies, Bool.false_eq_true, false_implies, and_true, true_and, BEq.rfl, reduceCtorEq] at hd_
      go_simp
      exact hK_.out _ _ _ (by first | rfl | (simp only [Act.put, List.setIfInBounds_toArray, List.set_cons_zero, List.set_cons_succ, hd_]; done) | (simp only [Act.put, List.setIfInBounds_toArray, List.set_cons_zero, List.set_cons_succ, hd_]; rfl)) (Below.refl _ _) rfl
    · intro w0_ hF_ hd_ Q_ K_ hK_
      have hc0_ := (bcell hF_).1
      have hf0_ := (bcell hF_).2
      have hz0_ := hF_.size; (try simp at hz0_)
      (try simp at hc0_ hf0_)
      have : w.heap.size < w0_.heap.size := by omega
      have : w.heap.size + 1 < w0_.heap.size := by omega
      have : w8.heap.size < w0_.heap.size := by omega
      simp only [DepsR, Region.binds, Nat.zero_add, Nat.reduceAdd, true_implies, Bool.false_eq_true, false_implies, and_true, true_and, BEq.rfl, reduceCtorEq] at hd_
      go_simp
      exact hK_.out _ _ _ (by first | rfl | (simp only [Act.put, List.setIfInBounds_toArray, List.set_cons_zero, List.set_cons_succ, hd_]; done) | (simp only [Act.put, List.setIfInBounds_toArray, List.set_cons_zero, List.set_cons_succ, hd_]; rfl)) (Below.refl _ _) rfl
    · intro w0_ hF_ hd_ Q_ K_ hK_
      have hc0_ := (bcell hF_).1
      have hf0_ := (bcell hF_).2
      have hz0_ := hF_.size; (try simp at hz0_)
      (try simp at hc0_ hf0_)
      have : w.heap.size < w0_.heap.size := by omega
      have : w.heap.size + 1 < w0_.heap.size := by omega
      have : w8.heap.size < w0_.heap.size := by omega
      simp only [DepsR, Region.binds, Nat.zero_add, Nat.reduceAdd, true_implies, Bool.false_eq_true, false_implies, and_true, true_and, BEq.rfl, reduceCtorEq] at hd_
      go_simp
      refine (P1.out _).mono ?_
      rintro e_ w1_ ⟨rfl, hb_⟩
      exact hK_.out _ _ _ (by first | rfl | (simp only [Act.put, List.setIfInBounds_toArray, List.set_cons_zero, List.set_cons_succ, hd_]; done) | (simp only [Act.put, List.setIfInBounds_toArray, List.set_cons_zero, List.set_cons_succ, hd_]; rfl)) hb_ rfl
    · intro w0_ hF_ hd_ Q_ K_ hK_
      have hc0_ := (bcell hF_).1
      have hf0_ := (bcell hF_).2
      have hz0_ := hF_.size; (try simp at hz0_)
      (try simp at hc0_ hf0_)
      have : w.heap.size < w0_.heap.size := by omega
      have : w.heap.size + 1 < w0_.heap.size := by omega
      have : w8.heap.size < w0_.heap.size := by omega
      simp only [DepsR, Region.binds, Nat.zero_add, Nat.reduceAdd, true_implies, Bool.false_eq_true, false_implies, and_true, true_and, BEq.rfl, reduceCtorEq] at hd_
      go_simp
      exact hK_.out _ _ _ (by first | rfl | (simp only [Act.put, List.setIfInBounds_toArray, List.set_cons_zero, List.set_cons_succ, hd_]; done) | (simp only [Act.put, List.setIfInBounds_toArray, List.set_cons_zero, List.set_cons_succ, hd_]; rfl)) (Below.refl _ _) rfl
    · intro w0_ hF_ hd_ Q_ K_ hK_
      have hc0_ := (bcell hF_).1
      have hf0_ := (bcell hF_).2
      have hz0_ := hF_.size; (try simp at hz0_)
      (try simp at hc0_ hf0_)
      have : w.heap.size < w0_.heap.size := by omega
      have : w.heap.size + 1 < w0_.heap.size := by omega
      have : w8.heap.size < w0_.heap.size := by omega
      simp only [DepsR, Region.binds, Nat.zero_add, Nat.reduceAdd, true_implies, Bool.false_eq_true, false_implies, and_true, true_and, BEq.rfl, reduceCtorEq] at hd_
      go_simp
      exact hK_.out _ _ _ (by first | rfl | (simp only [Act.put, List.setIfInBounds_toArray, List.set_cons_zero, List.set_cons_succ, hd_]; done) | (simp only [Act.put, List.setIfInBounds_toArray, List.set_cons_zero, List.set_cons_succ, hd_]; rfl)) (Below.refl _ _) rfl
    · intro w0_ hF_ hd_ Q_ K_ hK_
      have hc0_ := (bcell hF_).1
      have hf0_ := (bcell hF_).2
      have hz0_ := hF_.size; (try simp at hz0_)
      (try simp at hc0_ hf0_)
      have : w.heap.size < w0_.heap.size := by omega
      have : w.heap.size + 1 < w0_.heap.size := by omega
      have : w8.heap.size < w0_.heap.size := by omega
      simp only [DepsR, Region.binds, Nat.zero_add, Nat.reduceAdd, true_implies, Bool.false_eq_true, false_implies, and_true, true_and, BEq.rfl, reduceCtorEq] at hd_
      go_simp
      refine (P2.out _).mono ?_
      rintro e_ w1_ ⟨rfl, hb_⟩
      exact hK_.out _ _ _ (by first | rfl | (simp only [Act.put, List.setIfInBounds_toArray, List.set_cons_zero, List.set_cons_succ, hd_]; done) | (simp only [Act.put, List.setIfInBounds_toArray, List.set_cons_zero, List.set_cons_succ, hd_]; rfl)) hb_ rfl
    · intro w0_ hF_ hd_ Q_ K_ hK_
      have hc0_ := (bcell hF_).1
      have hf0_ := (bcell hF_).2
      have hz0_ := hF_.size; (try simp at hz0_)
      (try simp at hc0_ hf0_)
      have : w.heap.size < w0_.heap.size := by omega
      have : w.heap.size + 1 < w0_.heap.size := by omega
      have : w8.heap.size < w0_.heap.size := by omega
      simp only [DepsR, Region.binds, Nat.zero_add, Nat.reduceAdd, true_implies, Bool.false_eq_true, false_implies, and_true, true_and, BEq.rfl, reduceCtorEq] at hd_
      go_simp
      exact hK_.out _ _ _ (by first | rfl | (simp only [Act.put, List.setIfInBounds_toArray, List.set_cons_zero, List.set_cons_succ, hd_]; done) | (simp only [Act.put, List.setIfInBounds_toArray, List.set_cons_zero, List.set_cons_succ, hd_]; rfl)) (Below.refl _ _) rfl
    · intro w0_ hF_ hd_ Q_ K_ hK_
      have hc0_ := (bcell hF_).1
      have hf0_ := (bcell hF_).2
      have hz0_ := hF_.size; (try simp at hz0_)
      (try simp at hc0_ hf0_)
      have : w.heap.size < w0_.heap.size := by omega
      have : w.heap.size + 1 < w0_.heap.size := by omega
      have : w8.heap.size < w0_.heap.size := by omega
      simp only [DepsR, Region.binds, Nat.zero_add, Nat.reduceAdd, true_implies, Bool.false_eq_true, false_implies, and_true, true_and, BEq.rfl, reduceCtorEq] at hd_
      go_simp
      exact hK_.out _ _ _ (by first | rfl | (simp only [Act.put, List.setIfInBounds_toArray, List.set_cons_zero, List.set_cons_succ, hd_]; done) | (simp only [Act.put, List.setIfInBounds_toArray, List.set_cons_zero, List.set_cons_succ, hd_]; rfl)) (Below.refl _ _) rfl
    · intro w0_ hF_ hd_ Q_ K_ hK_
      have hc0_ := (bcell hF_).1
      have hf0_ := (bcell hF_).2
      have hz0_ := hF_.size; (try simp at hz0_)
      (try simp at hc0_ hf0_)
      have : w.heap.size < w0_.heap.size := by omega
      have : w.heap.size + 1 < w0_.heap.size := by omega
      have : w8.heap.size < w0_.heap.size := by omega
      simp only [DepsR, Region.binds, Nat.zero_add, Nat.reduceAdd, true_implies, Bool.false_eq_true, false_implies, and_true, true_and, BEq.rfl, reduceCtorEq] at hd_
      go_simp
      exact hK_.out _ _ _ (by first | rfl | (simp only [Act.put, List.setIfInBounds_toArray, List.set_cons_zero, List.set_cons_succ, hd_]; done) | (simp only [Act.put, List.setIfInBounds_toArray, List.set_cons_zero, List.set_cons_succ, hd_]; rfl)) (Below.refl _ _) rfl
  · intro vs w9 hBw9 hA_
    simp only [AllR, Nat.zero_add, Nat.reduceAdd, and_true] at hA_
    obtain ⟨r0_, r1_, r2_, r3_, r4_, r5_, r6_, r7_, r8_, r9_, r10_, r11_, r12_⟩ := hA_
    simp only [putAll, Act.put, List.setIfInBounds_toArray, List.set_cons_zero, List.set_cons_succ, Nat.zero_add, Nat.reduceAdd, r0_, r1_, r2_, r3_, r4_, r5_, r6_, r7_, r8_, r9_, r10_, r11_, r12_]
    clear r0_ r1_ r2_ r3_ r4_ r5_ r6_ r7_ r8_ r9_ r10_ r11_ r12_
    obtain ⟨hcw9, hfw9⟩ := bcell hBw9; (try simp only [World.size_drew, World.cell?_drew, World.frozen?_drew] at hcw9 hfw9); have hzw9 := hBw9.size; (try simp at hzw9)
    have : w.heap.size < w9.heap.size := by omega
    have : w.heap.size + 1 < w9.heap.size := by omega
    have : w8.heap.size < w9.heap.size := by omega
    clear wr wr2 e1 e2 e3
    go_wp2_with fail; refine (D1.out _).mono ?_; rintro ew10 w10 ⟨rfl, hbw10⟩; obtain ⟨hcw10, hfw10⟩ := bcell hbw10; (try simp only [World.size_drew, World.cell?_drew, World.frozen?_drew] at hcw10 hfw10); have hzw10 := hbw10.size; (try simp at hzw10); have : w.heap.size < w10.heap.size := (by omega); have : w.heap.size + 1 < w10.heap.size := (by omega); (try dsimp only)
    go_wp2_with fail; refine (D2.out _).mono ?_; rintro ew11 w11 ⟨rfl, hbw11⟩; obtain ⟨hcw11, hfw11⟩ := bcell hbw11; (try simp only [World.size_drew, World.cell?_drew, World.frozen?_drew] at hcw11 hfw11); have hzw11 := hbw11.size; (try simp at hzw11); have : w.heap.size < w11.heap.size := (by omega); have : w.heap.size + 1 < w11.heap.size := (by omega); have : w10.heap.size < w11.heap.size := (by omega); (try dsimp only)
    go_wp2_with fail; refine (D3.out _).mono ?_; rintro ew12 w12 ⟨rfl, hbw12⟩; obtain ⟨hcw12, hfw12⟩ := bcell hbw12; (try simp only [World.size_drew, World.cell?_drew, World.frozen?_drew] at hcw12 hfw12); have hzw12 := hbw12.size; (try simp at hzw12); have : w.heap.size < w12.heap.size := (by omega); have : w.heap.size + 1 < w12.heap.size := (by omega); have : w10.heap.size < w12.heap.size := (by omega); have : w11.heap.size < w12.heap.size := (by omega); (try dsimp only)
    go_wp2
    go_ret
    refine ⟨rfl, ?_⟩
    repeat (first | (with_reducible exact Below.refl _ _) | (with_reducible refine Below.drew ?_) | (refine Below.setCell ?_ (by first | exact Nat.le_refl _ | (simp; done) | (simp; omega) | omega) _) | (refine Below.alloc ?_ (by first | exact Nat.le_refl _ | (simp; done) | (simp; omega) | omega) _) | (refine Below.trans ?_ (Below.mono (by assumption) (by first | exact Nat.le_refl _ | (simp; done) | (simp; omega) | omega))))
end Go.Proofs.Ytanfgolelhmdhaa
