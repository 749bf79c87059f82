/- The walk of the statement DecSigns: a number and the one of the other sign sum to nothing; a product with the other sign has the other sign. -/
import Derived.Test.YtanfgolelhmdhaaDecX
import Derived.Test.YtanfgolelhmdhaaDecUnitsB
import Derived.Test.YtanfgolelhmdhaaLin
namespace Go.Proofs.Ytanfgolelhmdhaa
set_option linter.unusedSimpArgs false
set_option linter.unusedVariables false
set_option linter.unnecessarySimpa false
open Go.RowKit

theorem signs_bad1 (n n' : Bool) (m m' : Nat) (h : goodB n m = false) (w : World) :
    Calls Try.prog 8 #[MV n m, MV n' m'] w fun e w' => e = .returned (.bool true) ∧ Below w.heap.size w w' := by
  have C0 := Lib.hid awake_t
  have C1 := Lib.hid (good_u h)
  clear h
  go_enter Try.func8, Try.ntmps8
  go_wp2_with fail; refine (C0.out _).mono ?_; rintro ew1 w1 ⟨rfl, hbw1⟩; obtain ⟨hcw1, hfw1⟩ := bcell hbw1; (try simp only [World.size_drew, World.cell?_drew, World.frozen?_drew] at hcw1 hfw1); have hzw1 := hbw1.size; (try simp at hzw1); have : w.heap.size < w1.heap.size := (by omega); have : w.heap.size + 1 < w1.heap.size := (by omega); (try dsimp only)
  go_wp2_with fail; refine (C1.out _).mono ?_; rintro ew2 w2 ⟨rfl, hbw2⟩; obtain ⟨hcw2, hfw2⟩ := bcell hbw2; (try simp only [World.size_drew, World.cell?_drew, World.frozen?_drew] at hcw2 hfw2); have hzw2 := hbw2.size; (try simp at hzw2); have : w.heap.size < w2.heap.size := (by omega); have : w.heap.size + 1 < w2.heap.size := (by omega); (try dsimp only)
  go_wp2
  go_ret
  refine ⟨rfl, ?_⟩
  repeat (first | (with_reducible exact Below.refl _ _) | (with_reducible refine Below.drew ?_) | (refine Below.setCell ?_ (by first | exact Nat.le_refl _ | (simp; done) | (simp; omega) | omega) _) | (refine Below.alloc ?_ (by first | exact Nat.le_refl _ | (simp; done) | (simp; omega) | omega) _) | (refine Below.trans ?_ (Below.mono (by assumption) (by first | exact Nat.le_refl _ | (simp; done) | (simp; omega) | omega))))
theorem signs_bad2 (n n' : Bool) (m m' : Nat) (h : goodB n m = true) (h' : goodB n' m' = false) (w : World) :
    Calls Try.prog 8 #[MV n m, MV n' m'] w fun e w' => e = .returned (.bool true) ∧ Below w.heap.size w w' := by
  have C0 := Lib.hid awake_t
  have C1 := Lib.hid (good_u h)
  have C2 := Lib.hid (good_u h')
  clear h h'
  go_enter Try.func8, Try.ntmps8
  go_wp2_with fail; refine (C0.out _).mono ?_; rintro ew1 w1 ⟨rfl, hbw1⟩; obtain ⟨hcw1, hfw1⟩ := bcell hbw1; (try simp only [World.size_drew, World.cell?_drew, World.frozen?_drew] at hcw1 hfw1); have hzw1 := hbw1.size; (try simp at hzw1); have : w.heap.size < w1.heap.size := (by omega); have : w.heap.size + 1 < w1.heap.size := (by omega); (try dsimp only)
  go_wp2_with fail; refine (C1.out _).mono ?_; rintro ew2 w2 ⟨rfl, hbw2⟩; obtain ⟨hcw2, hfw2⟩ := bcell hbw2; (try simp only [World.size_drew, World.cell?_drew, World.frozen?_drew] at hcw2 hfw2); have hzw2 := hbw2.size; (try simp at hzw2); have : w.heap.size < w2.heap.size := (by omega); have : w.heap.size + 1 < w2.heap.size := (by omega); (try dsimp only)
  go_wp2_with fail; refine (C2.out _).mono ?_; rintro ew3 w3 ⟨rfl, hbw3⟩; obtain ⟨hcw3, hfw3⟩ := bcell hbw3; (try simp only [World.size_drew, World.cell?_drew, World.frozen?_drew] at hcw3 hfw3); have hzw3 := hbw3.size; (try simp at hzw3); have : w.heap.size < w3.heap.size := (by omega); have : w.heap.size + 1 < w3.heap.size := (by omega); (try dsimp only)
  go_wp2
  go_ret
  refine ⟨rfl, ?_⟩
  repeat (first | (with_reducible exact Below.refl _ _) | (with_reducible refine Below.drew ?_) | (refine Below.setCell ?_ (by first | exact Nat.le_refl _ | (simp; done) | (simp; omega) | omega) _) | (refine Below.alloc ?_ (by first | exact Nat.le_refl _ | (simp; done) | (simp; omega) | omega) _) | (refine Below.trans ?_ (Below.mono (by assumption) (by first | exact Nat.le_refl _ | (simp; done) | (simp; omega) | omega))))
theorem fitZ_neg (z : Int) : fitZ (-z) = -fitZ z := by
  unfold fitZ; rw [Int.natAbs_neg]; split <;> omega
theorem fitZ_top (z : Int) : (fitZ z).natAbs < topN := by
  unfold fitZ; split
  · assumption
  · decide
theorem fitC_neg (z : Int) : fitC (-z).natAbs = fitC z.natAbs := by rw [Int.natAbs_neg]
theorem fitC_le (z : Nat) : fitC z ≤ 25 := by unfold fitC; split <;> decide
theorem add_self_neg {x : Int} (hx : x.natAbs < topN) : ∀ w, Calls Try.prog 13 #[ZV x, ZV (-x)] w fun e w' => e = .returned (.tuple #[ZV 0, .nilIface]) ∧ Below w.heap.size w w' := by
  intro w
  have k := add_z x (-x) hx (by rw [Int.natAbs_neg]; exact hx) w
  rw [show x + -x = 0 from by omega, fitR_0 zero_top] at k
  exact k
set_option maxHeartbeats 4000000 in
theorem signs_ok (x y : Int) (hx : x.natAbs < topN) (hy : y.natAbs < topN) (w : World) :
    Calls Try.prog 8 #[ZV x, ZV y] w fun e w' => e = .returned (.bool true) ∧ Below w.heap.size w w' := by
  have hn : (-x).natAbs < topN := by rw [Int.natAbs_neg]; exact hx
  have C0 := Lib.hid awake_t
  have C1 := Lib.hid (good_z' hx)
  have C2 := Lib.hid (good_z' hy)
  have C3 := Lib.hid (neg_z x hx)
  have C4 := Lib.hid (add_self_neg hx)
  have C5 : Hid (∀ w, Calls Try.prog 24 #[ZV x, ZV y] w fun e w' => e = .returned (.tuple #[ZV (fitZ ((x * y).tdiv 1000000)), errV (fitC ((x * y).tdiv 1000000).natAbs)]) ∧ Below w.heap.size w w') := mul_z x y hx hy
  have C6 : Hid (∀ w, Calls Try.prog 24 #[ZV (-x), ZV y] w fun e w' => e = .returned (.tuple #[ZV (-fitZ ((x * y).tdiv 1000000)), errV (fitC ((x * y).tdiv 1000000).natAbs)]) ∧ Below w.heap.size w w') := by
    intro w
    have k := mul_z (-x) y hn hy w
    rw [show (-x * y).tdiv 1000000 = -((x * y).tdiv 1000000) from by rw [Int.neg_mul, Int.neg_tdiv]] at k
    unfold RV fitR at k
    rw [fitZ_neg, fitC_neg] at k
    exact k
  have C7 : Hid (∀ w, Calls Try.prog 35 #[ZV (-x)] w fun e w' => e = .returned (ZV x) ∧ Below w.heap.size w w') := by
    intro w
    have k := neg_z (-x) hn w
    rw [Int.neg_neg] at k
    exact k
  have C8 := Lib.hid (neg_z (fitZ ((x * y).tdiv 1000000)) (fitZ_top _))
  have C9 := Lib.hid (code_v (fitC ((x * y).tdiv 1000000).natAbs) (fitC_le _))
  clear hx hy hn
  generalize fitC ((x * y).tdiv 1000000).natAbs = k at *
  generalize fitZ ((x * y).tdiv 1000000) = p at *
  generalize -x = nx at *
  generalize -p = np at *
  have q1 : eqM (negZ x) x.natAbs (negZ x) x.natAbs = true := by rw [eqM_z]; simp
  have q2 : eqM (negZ np) np.natAbs (negZ np) np.natAbs = true := by rw [eqM_z]; simp
  have e1 := eql_mm (negZ x) (negZ x) x.natAbs x.natAbs
  have e2 := eql_mm (negZ np) (negZ np) np.natAbs np.natAbs
  have e3 : ∀ w, (binOp .eql 24 (ZV 0) (.agg #[.bool false, .int .u64 0, .int .u64 0])).run Try.prog w = .ok (.bool true) w := eql_mm false false 0 0
  rw [q1] at e1
  rw [q2] at e2
  clear q1 q2
  go_enter Try.func8, Try.ntmps8
  go_wp2_with fail; refine (C0.out _).mono ?_; rintro ew1 w1 ⟨rfl, hbw1⟩; obtain ⟨hcw1, hfw1⟩ := bcell hbw1; (try simp only [World.size_drew, World.cell?_drew, World.frozen?_drew] at hcw1 hfw1); have hzw1 := hbw1.size; (try simp at hzw1); have : w.heap.size < w1.heap.size := (by omega); have : w.heap.size + 1 < w1.heap.size := (by omega); (try dsimp only)
  go_wp2_with fail; refine (C1.out _).mono ?_; rintro ew2 w2 ⟨rfl, hbw2⟩; obtain ⟨hcw2, hfw2⟩ := bcell hbw2; (try simp only [World.size_drew, World.cell?_drew, World.frozen?_drew] at hcw2 hfw2); have hzw2 := hbw2.size; (try simp at hzw2); have : w.heap.size < w2.heap.size := (by omega); have : w.heap.size + 1 < w2.heap.size := (by omega); (try dsimp only)
  go_wp2_with fail; refine (C2.out _).mono ?_; rintro ew3 w3 ⟨rfl, hbw3⟩; obtain ⟨hcw3, hfw3⟩ := bcell hbw3; (try simp only [World.size_drew, World.cell?_drew, World.frozen?_drew] at hcw3 hfw3); have hzw3 := hbw3.size; (try simp at hzw3); have : w.heap.size < w3.heap.size := (by omega); have : w.heap.size + 1 < w3.heap.size := (by omega); (try dsimp only)
  go_wp2_with fail
  refine wp_region_keep (t := fun j => match j with | 8 => 7 | k => k) (al := fun j => match j with | 7 => true | _ => false) (loud := fun j => match j with | 8 => true | _ => false)
    (R := fun j v u w' => match j with
      | 0 => v = ZV x
      | 1 => v = ZV x
      | 2 => v = ZV nx
      | 3 => v = .tuple #[ZV 0, .nilIface]
      | 4 => v = .tuple #[ZV 0, .nilIface]
      | 5 => v = ZV 0
      | 6 => v = .nilIface
      | 7 => NewR (w3.heap.size) 24 3 v w'
      | 8 => HasR u 24 #[.bool (negZ 0), .int .u64 (hiN (0 : Int).natAbs), .int .u64 (loN (0 : Int).natAbs)] w'
      | 9 => v = .nilIface
      | _ => True) (by kernel_rfl) (by kernel_rfl) (by kernel_rfl) ?_ ?_ ?_ ?_
  · intro j v u w1_ w2_ h_ hF_ hB_
    (try dsimp only at h_ ⊢)
    split at h_ <;> first | exact h_ | exact NewR.on h_ hB_ | exact HasR.on h_ hB_ | exact IsNum.on h_ hB_ | exact HasNum.on h_ hB_ | exact RHeld.on h_ hB_ | trivial
  · intro j v u w1_ h1_ h_
    (try dsimp only at h1_ h_)
    split at h1_ <;> first | exact NewR.ptr h_ | (cases h1_)
  · intro vs
    simp only [putAll, Act.put, List.setIfInBounds_toArray, List.set_cons_zero, List.set_cons_succ, Nat.zero_add, Nat.reduceAdd]
    refine ⟨?_, ?_, ?_, ?_, ?_, ?_, ?_, ?_, ?_, ?_, trivial⟩
    · intro w0_ hF_ hd_ Q_ K_ hK_
      have hc0_ := (bcell hF_).1
      have hf0_ := (bcell hF_).2
      have hz0_ := hF_.size; (try simp at hz0_)
      (try simp at hc0_ hf0_)
      have : w.heap.size < w0_.heap.size := by omega
      have : w.heap.size + 1 < w0_.heap.size := by omega
      simp only [DepsR, Region.binds, Nat.zero_add, Nat.reduceAdd, true_implies, Bool.false_eq_true, false_implies, and_true, true_and, BEq.rfl, reduceCtorEq] at hd_
      go_simp
      exact hK_.out _ _ _ (by first | rfl | (simp only [Act.put, List.setIfInBounds_toArray, List.set_cons_zero, List.set_cons_succ, hd_]; done) | (simp only [Act.put, List.setIfInBounds_toArray, List.set_cons_zero, List.set_cons_succ, hd_]; rfl)) (Below.refl _ _) rfl (fun h => by cases h)
    · intro w0_ hF_ hd_ Q_ K_ hK_
      have hc0_ := (bcell hF_).1
      have hf0_ := (bcell hF_).2
      have hz0_ := hF_.size; (try simp at hz0_)
      (try simp at hc0_ hf0_)
      have : w.heap.size < w0_.heap.size := by omega
      have : w.heap.size + 1 < w0_.heap.size := by omega
      simp only [DepsR, Region.binds, Nat.zero_add, Nat.reduceAdd, true_implies, Bool.false_eq_true, false_implies, and_true, true_and, BEq.rfl, reduceCtorEq] at hd_
      go_simp
      exact hK_.out _ _ _ (by first | rfl | (simp only [Act.put, List.setIfInBounds_toArray, List.set_cons_zero, List.set_cons_succ, hd_]; done) | (simp only [Act.put, List.setIfInBounds_toArray, List.set_cons_zero, List.set_cons_succ, hd_]; rfl)) (Below.refl _ _) rfl (fun h => by cases h)
    · intro w0_ hF_ hd_ Q_ K_ hK_
      have hc0_ := (bcell hF_).1
      have hf0_ := (bcell hF_).2
      have hz0_ := hF_.size; (try simp at hz0_)
      (try simp at hc0_ hf0_)
      have : w.heap.size < w0_.heap.size := by omega
      have : w.heap.size + 1 < w0_.heap.size := by omega
      simp only [DepsR, Region.binds, Nat.zero_add, Nat.reduceAdd, true_implies, Bool.false_eq_true, false_implies, and_true, true_and, BEq.rfl, reduceCtorEq] at hd_
      go_simp
      refine (C3.out _).mono ?_
      rintro e_ w1_ ⟨rfl, hb_⟩
      exact hK_.out _ _ _ (by first | rfl | (simp only [Act.put, List.setIfInBounds_toArray, List.set_cons_zero, List.set_cons_succ, hd_]; done) | (simp only [Act.put, List.setIfInBounds_toArray, List.set_cons_zero, List.set_cons_succ, hd_]; rfl)) hb_ rfl (fun h => by cases h)
    · intro w0_ hF_ hd_ Q_ K_ hK_
      have hc0_ := (bcell hF_).1
      have hf0_ := (bcell hF_).2
      have hz0_ := hF_.size; (try simp at hz0_)
      (try simp at hc0_ hf0_)
      have : w.heap.size < w0_.heap.size := by omega
      have : w.heap.size + 1 < w0_.heap.size := by omega
      simp only [DepsR, Region.binds, Nat.zero_add, Nat.reduceAdd, true_implies, Bool.false_eq_true, false_implies, and_true, true_and, BEq.rfl, reduceCtorEq] at hd_
      go_simp
      refine (C4.out _).mono ?_
      rintro e_ w1_ ⟨rfl, hb_⟩
      exact hK_.out _ _ _ (by first | rfl | (simp only [Act.put, List.setIfInBounds_toArray, List.set_cons_zero, List.set_cons_succ, hd_]; done) | (simp only [Act.put, List.setIfInBounds_toArray, List.set_cons_zero, List.set_cons_succ, hd_]; rfl)) hb_ rfl (fun h => by cases h)
    · intro w0_ hF_ hd_ Q_ K_ hK_
      have hc0_ := (bcell hF_).1
      have hf0_ := (bcell hF_).2
      have hz0_ := hF_.size; (try simp at hz0_)
      (try simp at hc0_ hf0_)
      have : w.heap.size < w0_.heap.size := by omega
      have : w.heap.size + 1 < w0_.heap.size := by omega
      simp only [DepsR, Region.binds, Nat.zero_add, Nat.reduceAdd, true_implies, Bool.false_eq_true, false_implies, and_true, true_and, BEq.rfl, reduceCtorEq] at hd_
      go_simp
      exact hK_.out _ _ _ (by first | rfl | (simp only [Act.put, List.setIfInBounds_toArray, List.set_cons_zero, List.set_cons_succ, hd_]; done) | (simp only [Act.put, List.setIfInBounds_toArray, List.set_cons_zero, List.set_cons_succ, hd_]; rfl)) (Below.refl _ _) rfl (fun h => by cases h)
    · intro w0_ hF_ hd_ Q_ K_ hK_
      have hc0_ := (bcell hF_).1
      have hf0_ := (bcell hF_).2
      have hz0_ := hF_.size; (try simp at hz0_)
      (try simp at hc0_ hf0_)
      have : w.heap.size < w0_.heap.size := by omega
      have : w.heap.size + 1 < w0_.heap.size := by omega
      simp only [DepsR, Region.binds, Nat.zero_add, Nat.reduceAdd, true_implies, Bool.false_eq_true, false_implies, and_true, true_and, BEq.rfl, reduceCtorEq] at hd_
      go_simp
      exact hK_.out _ _ _ (by first | rfl | (simp only [Act.put, List.setIfInBounds_toArray, List.set_cons_zero, List.set_cons_succ, hd_]; done) | (simp only [Act.put, List.setIfInBounds_toArray, List.set_cons_zero, List.set_cons_succ, hd_]; rfl)) (Below.refl _ _) rfl (fun h => by cases h)
    · intro w0_ hF_ hd_ Q_ K_ hK_
      have hc0_ := (bcell hF_).1
      have hf0_ := (bcell hF_).2
      have hz0_ := hF_.size; (try simp at hz0_)
      (try simp at hc0_ hf0_)
      have : w.heap.size < w0_.heap.size := by omega
      have : w.heap.size + 1 < w0_.heap.size := by omega
      simp only [DepsR, Region.binds, Nat.zero_add, Nat.reduceAdd, true_implies, Bool.false_eq_true, false_implies, and_true, true_and, BEq.rfl, reduceCtorEq] at hd_
      go_simp
      exact hK_.out _ _ _ (by first | rfl | (simp only [Act.put, List.setIfInBounds_toArray, List.set_cons_zero, List.set_cons_succ, hd_]; done) | (simp only [Act.put, List.setIfInBounds_toArray, List.set_cons_zero, List.set_cons_succ, hd_]; rfl)) (Below.refl _ _) rfl (fun h => by cases h)
    · intro w0_ hF_ hd_ Q_ K_ hK_
      have hc0_ := (bcell hF_).1
      have hf0_ := (bcell hF_).2
      have hz0_ := hF_.size; (try simp at hz0_)
      (try simp at hc0_ hf0_)
      have : w.heap.size < w0_.heap.size := by omega
      have : w.heap.size + 1 < w0_.heap.size := by omega
      simp only [DepsR, Region.binds, Nat.zero_add, Nat.reduceAdd, true_implies, Bool.false_eq_true, false_implies, and_true, true_and, BEq.rfl, reduceCtorEq] at hd_
      go_simp
      exact hK_.out _ _ _ (by first | rfl | (simp only [Act.put, List.setIfInBounds_toArray, List.set_cons_zero, List.set_cons_succ, hd_]; done) | (simp only [Act.put, List.setIfInBounds_toArray, List.set_cons_zero, List.set_cons_succ, hd_]; rfl)) ((Below.refl _ _).alloc (Nat.le_refl _) _) ⟨_, _, rfl, by omega, rfl, Lies.fresh _ _ _⟩ (fun _ => ⟨_, rfl, Nat.le_refl _⟩)
    · intro w0_ hF_ hd_ Q_ K_ hK_
      have hc0_ := (bcell hF_).1
      have hf0_ := (bcell hF_).2
      have hz0_ := hF_.size; (try simp at hz0_)
      (try simp at hc0_ hf0_)
      have : w.heap.size < w0_.heap.size := by omega
      have : w.heap.size + 1 < w0_.heap.size := by omega
      simp only [DepsR, Region.binds, Nat.zero_add, Nat.reduceAdd, true_implies, Bool.false_eq_true, false_implies, and_true, true_and, BEq.rfl, reduceCtorEq] at hd_
      obtain ⟨b_, cs_, hv_, hB_, hn_, hl_⟩ : NewR (w3.heap.size) 24 3 (vs 7) w0_ := by simp only [hd_]
      obtain ⟨c0_, c1_, c2_, rfl⟩ := size3 hn_
      obtain ⟨k0_, k1_, k2_, f0_, f1_, f2_⟩ := hl_.cells3
      go_simp
      refine hK_.out _ undef _ (by first | rfl | (simp only [Act.put, List.setIfInBounds_toArray, List.set_cons_zero, List.set_cons_succ, hd_, hv_]; done) | (simp only [Act.put, List.setIfInBounds_toArray, List.set_cons_zero, List.set_cons_succ, hd_, hv_]; rfl)) ⟨?_, fun j_ hj_ hd2_ h_ => ?_⟩ ⟨b_, by simpa using hv_, hl_.put3 _ _ _⟩ (fun h => by cases h)
      · refine Below.setCell ?_ (by simp; omega) _; refine Below.setCell ?_ (by simp; omega) _; refine Below.setCell ?_ (by simp; omega) _; exact hF_
      · (try dsimp only at h_ hd2_ ⊢)
        split at h_ <;> first | exact h_ | exact ⟨b_, _, by simpa using hv_, hB_, rfl, hl_.put3 _ _ _⟩ | (exact NewR.far3 h_ hv_ (hd2_ rfl rfl (by decide)) _ _ _) | (exact HasR.far3 h_ hv_ (hd2_ rfl rfl (by decide)) _ _ _) | trivial
    · intro w0_ hF_ hd_ Q_ K_ hK_
      have hc0_ := (bcell hF_).1
      have hf0_ := (bcell hF_).2
      have hz0_ := hF_.size; (try simp at hz0_)
      (try simp at hc0_ hf0_)
      have : w.heap.size < w0_.heap.size := by omega
      have : w.heap.size + 1 < w0_.heap.size := by omega
      simp only [DepsR, Region.binds, Nat.zero_add, Nat.reduceAdd, true_implies, Bool.false_eq_true, false_implies, and_true, true_and, BEq.rfl, reduceCtorEq] at hd_
      go_simp
      exact hK_.out _ _ _ (by first | rfl | (simp only [Act.put, List.setIfInBounds_toArray, List.set_cons_zero, List.set_cons_succ, hd_]; done) | (simp only [Act.put, List.setIfInBounds_toArray, List.set_cons_zero, List.set_cons_succ, hd_]; rfl)) (Below.refl _ _) rfl (fun h => by cases h)
  · intro vs w4 hBw4 hA_ hD_
    simp only [AllR, Nat.zero_add, Nat.reduceAdd, and_true] at hA_
    obtain ⟨r0_, r1_, r2_, r3_, r4_, r5_, r6_, r7_, r8_, r9_⟩ := hA_
    obtain ⟨b7w4, e7_, l7⟩ := r8_
    obtain ⟨b_, cs_, e_, hb7, n_, l_⟩ := r7_
    obtain rfl : b7w4 = b_ := by have := e_.symm.trans e7_; simpa using this.symm
    clear e_ n_ l_
    clear hD_
    simp only [putAll, Act.put, List.setIfInBounds_toArray, List.set_cons_zero, List.set_cons_succ, Nat.zero_add, Nat.reduceAdd, r0_, r1_, r2_, r3_, r4_, r5_, r6_, r9_, e7_]
    clear r0_ r1_ r2_ r3_ r4_ r5_ r6_ r9_ e7_
    obtain ⟨hcw4, hfw4⟩ := bcell hBw4; (try simp only [World.size_drew, World.cell?_drew, World.frozen?_drew] at hcw4 hfw4); have hzw4 := hBw4.size; (try simp at hzw4)
    have : w.heap.size < w4.heap.size := by omega
    have : w.heap.size + 1 < w4.heap.size := by omega
    obtain ⟨k7_0, k7_1, k7_2, f7_0, f7_1, f7_2⟩ := l7.cells3
    have : b7w4 < w4.heap.size := l7.lt
    go_wp2_with fail; refine (C5.out _).mono ?_; rintro ew5 w5 ⟨rfl, hbw5⟩; obtain ⟨hcw5, hfw5⟩ := bcell hbw5; (try simp only [World.size_drew, World.cell?_drew, World.frozen?_drew] at hcw5 hfw5); have hzw5 := hbw5.size; (try simp at hzw5); have : w.heap.size < w5.heap.size := (by omega); have : w.heap.size + 1 < w5.heap.size := (by omega); (try dsimp only)
    have : b7w4 < w5.heap.size := by omega
    go_wp2_with fail
    have : b7w4 < w5.heap.size + 1 := by omega
    have : w.heap.size < w5.heap.size + 1 := by omega
    have : w.heap.size + 1 < w5.heap.size + 1 := by omega
    refine wp_region_keep (t := fun j => match j with | 8 => 7 | k => k) (al := fun j => match j with | 7 => true | _ => false) (loud := fun j => match j with | 8 => true | _ => false)
      (R := fun j v u w' => match j with
        | 0 => v = ZV x
        | 1 => v = ZV nx
        | 2 => v = ZV y
        | 3 => v = .tuple #[ZV np, errV k]
        | 4 => v = .tuple #[ZV np, errV k]
        | 5 => v = ZV np
        | 6 => v = errV k
        | 7 => NewR (w5.heap.size + 1) 24 3 v w'
        | 8 => HasR u 24 #[.bool (negZ np), .int .u64 (hiN np.natAbs), .int .u64 (loN np.natAbs)] w'
        | 9 => v = errV k
        | _ => True) (by kernel_rfl) (by kernel_rfl) (by kernel_rfl) ?_ ?_ ?_ ?_
    · intro j v u w1_ w2_ h_ hF_ hB_
      (try dsimp only at h_ ⊢)
      split at h_ <;> first | exact h_ | exact NewR.on h_ hB_ | exact HasR.on h_ hB_ | exact IsNum.on h_ hB_ | exact HasNum.on h_ hB_ | exact RHeld.on h_ hB_ | trivial
    · intro j v u w1_ h1_ h_
      (try dsimp only at h1_ h_)
      split at h1_ <;> first | exact NewR.ptr h_ | (cases h1_)
    · intro vs
      simp only [putAll, Act.put, List.setIfInBounds_toArray, List.set_cons_zero, List.set_cons_succ, Nat.zero_add, Nat.reduceAdd]
      refine ⟨?_, ?_, ?_, ?_, ?_, ?_, ?_, ?_, ?_, ?_, trivial⟩
      · intro w0_ hF_ hd_ Q_ K_ hK_
        have hc0_ := (bcell hF_).1
        have hf0_ := (bcell hF_).2
        have hz0_ := hF_.size; (try simp at hz0_)
        (try simp at hc0_ hf0_)
        have : w.heap.size < w0_.heap.size := by omega
        have : w.heap.size + 1 < w0_.heap.size := by omega
        have : w5.heap.size < w0_.heap.size := by omega
        simp only [DepsR, Region.binds, Nat.zero_add, Nat.reduceAdd, true_implies, Bool.false_eq_true, false_implies, and_true, true_and, BEq.rfl, reduceCtorEq] at hd_
        go_simp
        exact hK_.out _ _ _ (by first | rfl | (simp only [Act.put, List.setIfInBounds_toArray, List.set_cons_zero, List.set_cons_succ, hd_]; done) | (simp only [Act.put, List.setIfInBounds_toArray, List.set_cons_zero, List.set_cons_succ, hd_]; rfl)) (Below.refl _ _) rfl (fun h => by cases h)
      · intro w0_ hF_ hd_ Q_ K_ hK_
        have hc0_ := (bcell hF_).1
        have hf0_ := (bcell hF_).2
        have hz0_ := hF_.size; (try simp at hz0_)
        (try simp at hc0_ hf0_)
        have : w.heap.size < w0_.heap.size := by omega
        have : w.heap.size + 1 < w0_.heap.size := by omega
        have : w5.heap.size < w0_.heap.size := by omega
        simp only [DepsR, Region.binds, Nat.zero_add, Nat.reduceAdd, true_implies, Bool.false_eq_true, false_implies, and_true, true_and, BEq.rfl, reduceCtorEq] at hd_
        go_simp
        refine (C3.out _).mono ?_
        rintro e_ w1_ ⟨rfl, hb_⟩
        exact hK_.out _ _ _ (by first | rfl | (simp only [Act.put, List.setIfInBounds_toArray, List.set_cons_zero, List.set_cons_succ, hd_]; done) | (simp only [Act.put, List.setIfInBounds_toArray, List.set_cons_zero, List.set_cons_succ, hd_]; rfl)) hb_ rfl (fun h => by cases h)
      · intro w0_ hF_ hd_ Q_ K_ hK_
        have hc0_ := (bcell hF_).1
        have hf0_ := (bcell hF_).2
        have hz0_ := hF_.size; (try simp at hz0_)
        (try simp at hc0_ hf0_)
        have : w.heap.size < w0_.heap.size := by omega
        have : w.heap.size + 1 < w0_.heap.size := by omega
        have : w5.heap.size < w0_.heap.size := by omega
        simp only [DepsR, Region.binds, Nat.zero_add, Nat.reduceAdd, true_implies, Bool.false_eq_true, false_implies, and_true, true_and, BEq.rfl, reduceCtorEq] at hd_
        go_simp
        exact hK_.out _ _ _ (by first | rfl | (simp only [Act.put, List.setIfInBounds_toArray, List.set_cons_zero, List.set_cons_succ, hd_]; done) | (simp only [Act.put, List.setIfInBounds_toArray, List.set_cons_zero, List.set_cons_succ, hd_]; rfl)) (Below.refl _ _) rfl (fun h => by cases h)
      · intro w0_ hF_ hd_ Q_ K_ hK_
        have hc0_ := (bcell hF_).1
        have hf0_ := (bcell hF_).2
        have hz0_ := hF_.size; (try simp at hz0_)
        (try simp at hc0_ hf0_)
        have : w.heap.size < w0_.heap.size := by omega
        have : w.heap.size + 1 < w0_.heap.size := by omega
        have : w5.heap.size < w0_.heap.size := by omega
        simp only [DepsR, Region.binds, Nat.zero_add, Nat.reduceAdd, true_implies, Bool.false_eq_true, false_implies, and_true, true_and, BEq.rfl, reduceCtorEq] at hd_
        go_simp
        refine (C6.out _).mono ?_
        rintro e_ w1_ ⟨rfl, hb_⟩
        exact hK_.out _ _ _ (by first | rfl | (simp only [Act.put, List.setIfInBounds_toArray, List.set_cons_zero, List.set_cons_succ, hd_]; done) | (simp only [Act.put, List.setIfInBounds_toArray, List.set_cons_zero, List.set_cons_succ, hd_]; rfl)) hb_ rfl (fun h => by cases h)
      · intro w0_ hF_ hd_ Q_ K_ hK_
        have hc0_ := (bcell hF_).1
        have hf0_ := (bcell hF_).2
        have hz0_ := hF_.size; (try simp at hz0_)
        (try simp at hc0_ hf0_)
        have : w.heap.size < w0_.heap.size := by omega
        have : w.heap.size + 1 < w0_.heap.size := by omega
        have : w5.heap.size < w0_.heap.size := by omega
        simp only [DepsR, Region.binds, Nat.zero_add, Nat.reduceAdd, true_implies, Bool.false_eq_true, false_implies, and_true, true_and, BEq.rfl, reduceCtorEq] at hd_
        go_simp
        exact hK_.out _ _ _ (by first | rfl | (simp only [Act.put, List.setIfInBounds_toArray, List.set_cons_zero, List.set_cons_succ, hd_]; done) | (simp only [Act.put, List.setIfInBounds_toArray, List.set_cons_zero, List.set_cons_succ, hd_]; rfl)) (Below.refl _ _) rfl (fun h => by cases h)
      · intro w0_ hF_ hd_ Q_ K_ hK_
        have hc0_ := (bcell hF_).1
        have hf0_ := (bcell hF_).2
        have hz0_ := hF_.size; (try simp at hz0_)
        (try simp at hc0_ hf0_)
        have : w.heap.size < w0_.heap.size := by omega
        have : w.heap.size + 1 < w0_.heap.size := by omega
        have : w5.heap.size < w0_.heap.size := by omega
        simp only [DepsR, Region.binds, Nat.zero_add, Nat.reduceAdd, true_implies, Bool.false_eq_true, false_implies, and_true, true_and, BEq.rfl, reduceCtorEq] at hd_
        go_simp
        exact hK_.out _ _ _ (by first | rfl | (simp only [Act.put, List.setIfInBounds_toArray, List.set_cons_zero, List.set_cons_succ, hd_]; done) | (simp only [Act.put, List.setIfInBounds_toArray, List.set_cons_zero, List.set_cons_succ, hd_]; rfl)) (Below.refl _ _) rfl (fun h => by cases h)
      · intro w0_ hF_ hd_ Q_ K_ hK_
        have hc0_ := (bcell hF_).1
        have hf0_ := (bcell hF_).2
        have hz0_ := hF_.size; (try simp at hz0_)
        (try simp at hc0_ hf0_)
        have : w.heap.size < w0_.heap.size := by omega
        have : w.heap.size + 1 < w0_.heap.size := by omega
        have : w5.heap.size < w0_.heap.size := by omega
        simp only [DepsR, Region.binds, Nat.zero_add, Nat.reduceAdd, true_implies, Bool.false_eq_true, false_implies, and_true, true_and, BEq.rfl, reduceCtorEq] at hd_
        go_simp
        exact hK_.out _ _ _ (by first | rfl | (simp only [Act.put, List.setIfInBounds_toArray, List.set_cons_zero, List.set_cons_succ, hd_]; done) | (simp only [Act.put, List.setIfInBounds_toArray, List.set_cons_zero, List.set_cons_succ, hd_]; rfl)) (Below.refl _ _) rfl (fun h => by cases h)
      · intro w0_ hF_ hd_ Q_ K_ hK_
        have hc0_ := (bcell hF_).1
        have hf0_ := (bcell hF_).2
        have hz0_ := hF_.size; (try simp at hz0_)
        (try simp at hc0_ hf0_)
        have : w.heap.size < w0_.heap.size := by omega
        have : w.heap.size + 1 < w0_.heap.size := by omega
        have : w5.heap.size < w0_.heap.size := by omega
        simp only [DepsR, Region.binds, Nat.zero_add, Nat.reduceAdd, true_implies, Bool.false_eq_true, false_implies, and_true, true_and, BEq.rfl, reduceCtorEq] at hd_
        go_simp
        exact hK_.out _ _ _ (by first | rfl | (simp only [Act.put, List.setIfInBounds_toArray, List.set_cons_zero, List.set_cons_succ, hd_]; done) | (simp only [Act.put, List.setIfInBounds_toArray, List.set_cons_zero, List.set_cons_succ, hd_]; rfl)) ((Below.refl _ _).alloc (Nat.le_refl _) _) ⟨_, _, rfl, by omega, rfl, Lies.fresh _ _ _⟩ (fun _ => ⟨_, rfl, Nat.le_refl _⟩)
      · intro w0_ hF_ hd_ Q_ K_ hK_
        have hc0_ := (bcell hF_).1
        have hf0_ := (bcell hF_).2
        have hz0_ := hF_.size; (try simp at hz0_)
        (try simp at hc0_ hf0_)
        have : w.heap.size < w0_.heap.size := by omega
        have : w.heap.size + 1 < w0_.heap.size := by omega
        have : w5.heap.size < w0_.heap.size := by omega
        simp only [DepsR, Region.binds, Nat.zero_add, Nat.reduceAdd, true_implies, Bool.false_eq_true, false_implies, and_true, true_and, BEq.rfl, reduceCtorEq] at hd_
        obtain ⟨b_, cs_, hv_, hB_, hn_, hl_⟩ : NewR (w5.heap.size + 1) 24 3 (vs 7) w0_ := by simp only [hd_]
        obtain ⟨c0_, c1_, c2_, rfl⟩ := size3 hn_
        obtain ⟨k0_, k1_, k2_, f0_, f1_, f2_⟩ := hl_.cells3
        go_simp
        refine hK_.out _ undef _ (by first | rfl | (simp only [Act.put, List.setIfInBounds_toArray, List.set_cons_zero, List.set_cons_succ, hd_, hv_]; done) | (simp only [Act.put, List.setIfInBounds_toArray, List.set_cons_zero, List.set_cons_succ, hd_, hv_]; rfl)) ⟨?_, fun j_ hj_ hd2_ h_ => ?_⟩ ⟨b_, by simpa using hv_, hl_.put3 _ _ _⟩ (fun h => by cases h)
        · refine Below.setCell ?_ (by simp; omega) _; refine Below.setCell ?_ (by simp; omega) _; refine Below.setCell ?_ (by simp; omega) _; exact hF_
        · (try dsimp only at h_ hd2_ ⊢)
          split at h_ <;> first | exact h_ | exact ⟨b_, _, by simpa using hv_, hB_, rfl, hl_.put3 _ _ _⟩ | (exact NewR.far3 h_ hv_ (hd2_ rfl rfl (by decide)) _ _ _) | (exact HasR.far3 h_ hv_ (hd2_ rfl rfl (by decide)) _ _ _) | trivial
      · intro w0_ hF_ hd_ Q_ K_ hK_
        have hc0_ := (bcell hF_).1
        have hf0_ := (bcell hF_).2
        have hz0_ := hF_.size; (try simp at hz0_)
        (try simp at hc0_ hf0_)
        have : w.heap.size < w0_.heap.size := by omega
        have : w.heap.size + 1 < w0_.heap.size := by omega
        have : w5.heap.size < w0_.heap.size := by omega
        simp only [DepsR, Region.binds, Nat.zero_add, Nat.reduceAdd, true_implies, Bool.false_eq_true, false_implies, and_true, true_and, BEq.rfl, reduceCtorEq] at hd_
        go_simp
        exact hK_.out _ _ _ (by first | rfl | (simp only [Act.put, List.setIfInBounds_toArray, List.set_cons_zero, List.set_cons_succ, hd_]; done) | (simp only [Act.put, List.setIfInBounds_toArray, List.set_cons_zero, List.set_cons_succ, hd_]; rfl)) (Below.refl _ _) rfl (fun h => by cases h)
    · intro vs w6 hBw6 hA_ hD_
      simp only [AllR, Nat.zero_add, Nat.reduceAdd, and_true] at hA_
      obtain ⟨r0_, r1_, r2_, r3_, r4_, r5_, r6_, r7_, r8_, r9_⟩ := hA_
      obtain ⟨b7w6, e7_, l7⟩ := r8_
      obtain ⟨b_, cs_, e_, hb7, n_, l_⟩ := r7_
      obtain rfl : b7w6 = b_ := by have := e_.symm.trans e7_; simpa using this.symm
      clear e_ n_ l_
      clear hD_
      simp only [putAll, Act.put, List.setIfInBounds_toArray, List.set_cons_zero, List.set_cons_succ, Nat.zero_add, Nat.reduceAdd, r0_, r1_, r2_, r3_, r4_, r5_, r6_, r9_, e7_]
      clear r0_ r1_ r2_ r3_ r4_ r5_ r6_ r9_ e7_
      obtain ⟨hcw6, hfw6⟩ := bcell hBw6; (try simp only [World.size_drew, World.cell?_drew, World.frozen?_drew] at hcw6 hfw6); have hzw6 := hBw6.size; (try simp at hzw6)
      have : w.heap.size < w6.heap.size := by omega
      have : w.heap.size + 1 < w6.heap.size := by omega
      have : w5.heap.size < w6.heap.size := by omega
      obtain ⟨k7_0, k7_1, k7_2, f7_0, f7_1, f7_2⟩ := l7.cells3
      have : b7w6 < w6.heap.size := l7.lt
      have : b7w4 < w6.heap.size := by omega
      go_wp2_with fail
      refine wp_region_keep (t := fun j => j) (al := fun _ => false) (loud := fun _ => false)
        (R := fun j v u w' => match j with
          | 0 => v = .nilIface
          | 1 => v = .bool true
          | 2 => v = .bool true
          | 3 => v = ZV 0
          | 4 => v = .agg #[.bool false, .int .u64 0, .int .u64 0]
          | 5 => v = .bool true
          | 6 => v = .bool true
          | 7 => v = .bool true
          | 8 => v = ZV x
          | 9 => v = ZV nx
          | 10 => v = ZV x
          | 11 => v = ZV x
          | 12 => v = .bool true
          | 13 => v = .bool true
          | 14 => v = .bool true
          | 15 => v = errV k
          | 16 => v = .int .i64 (k : Int)
          | 17 => v = errV k
          | 18 => v = .int .i64 (k : Int)
          | 19 => v = .bool true
          | 20 => v = .bool true
          | 21 => v = .bool true
          | 22 => v = ZV np
          | 23 => v = ZV p
          | 24 => v = ZV np
          | 25 => v = .bool true
          | 26 => v = .bool true
          | 27 => v = .bool true
          | _ => True) (by kernel_rfl) (by kernel_rfl) (by kernel_rfl) ?_ ?_ ?_ ?_
      · intro j v u w1_ w2_ h_ hF_ hB_
        (try dsimp only at h_ ⊢)
        split at h_ <;> first | exact h_ | exact NewR.on h_ hB_ | exact HasR.on h_ hB_ | exact IsNum.on h_ hB_ | exact HasNum.on h_ hB_ | exact RHeld.on h_ hB_ | trivial
      · intro j v u w1_ h1_ h_
        cases h1_
      · intro vs
        simp only [putAll, Act.put, List.setIfInBounds_toArray, List.set_cons_zero, List.set_cons_succ, Nat.zero_add, Nat.reduceAdd]
        refine ⟨?_, ?_, ?_, ?_, ?_, ?_, ?_, ?_, ?_, ?_, ?_, ?_, ?_, ?_, ?_, ?_, ?_, ?_, ?_, ?_, ?_, ?_, ?_, ?_, ?_, ?_, ?_, ?_, trivial⟩
        · intro w0_ hF_ hd_ Q_ K_ hK_
          have hc0_ := (bcell hF_).1
          have hf0_ := (bcell hF_).2
          have hz0_ := hF_.size; (try simp at hz0_)
          (try simp at hc0_ hf0_)
          have : w.heap.size < w0_.heap.size := by omega
          have : w.heap.size + 1 < w0_.heap.size := by omega
          have : w5.heap.size < w0_.heap.size := by omega
          have : b7w4 < w0_.heap.size := by omega
          have : b7w6 < w0_.heap.size := by omega
          simp only [DepsR, Region.binds, Nat.zero_add, Nat.reduceAdd, true_implies, Bool.false_eq_true, false_implies, and_true, true_and, BEq.rfl, reduceCtorEq] at hd_
          go_simp
          exact hK_.out _ _ _ (by first | rfl | (simp only [Act.put, List.setIfInBounds_toArray, List.set_cons_zero, List.set_cons_succ, hd_]; done) | (simp only [Act.put, List.setIfInBounds_toArray, List.set_cons_zero, List.set_cons_succ, hd_]; rfl)) (Below.refl _ _) rfl (fun h => by cases h)
        · intro w0_ hF_ hd_ Q_ K_ hK_
          have hc0_ := (bcell hF_).1
          have hf0_ := (bcell hF_).2
          have hz0_ := hF_.size; (try simp at hz0_)
          (try simp at hc0_ hf0_)
          have : w.heap.size < w0_.heap.size := by omega
          have : w.heap.size + 1 < w0_.heap.size := by omega
          have : w5.heap.size < w0_.heap.size := by omega
          have : b7w4 < w0_.heap.size := by omega
          have : b7w6 < w0_.heap.size := by omega
          simp only [DepsR, Region.binds, Nat.zero_add, Nat.reduceAdd, true_implies, Bool.false_eq_true, false_implies, and_true, true_and, BEq.rfl, reduceCtorEq] at hd_
          go_simp
          exact hK_.out _ _ _ (by first | rfl | (simp only [Act.put, List.setIfInBounds_toArray, List.set_cons_zero, List.set_cons_succ, hd_]; done) | (simp only [Act.put, List.setIfInBounds_toArray, List.set_cons_zero, List.set_cons_succ, hd_]; rfl)) (Below.refl _ _) rfl (fun h => by cases h)
        · intro w0_ hF_ hd_ Q_ K_ hK_
          have hc0_ := (bcell hF_).1
          have hf0_ := (bcell hF_).2
          have hz0_ := hF_.size; (try simp at hz0_)
          (try simp at hc0_ hf0_)
          have : w.heap.size < w0_.heap.size := by omega
          have : w.heap.size + 1 < w0_.heap.size := by omega
          have : w5.heap.size < w0_.heap.size := by omega
          have : b7w4 < w0_.heap.size := by omega
          have : b7w6 < w0_.heap.size := by omega
          simp only [DepsR, Region.binds, Nat.zero_add, Nat.reduceAdd, true_implies, Bool.false_eq_true, false_implies, and_true, true_and, BEq.rfl, reduceCtorEq] at hd_
          go_simp
          exact hK_.out _ _ _ (by first | rfl | (simp only [Act.put, List.setIfInBounds_toArray, List.set_cons_zero, List.set_cons_succ, hd_]; done) | (simp only [Act.put, List.setIfInBounds_toArray, List.set_cons_zero, List.set_cons_succ, hd_]; rfl)) (Below.refl _ _) rfl (fun h => by cases h)
        · intro w0_ hF_ hd_ Q_ K_ hK_
          have hc0_ := (bcell hF_).1
          have hf0_ := (bcell hF_).2
          have hz0_ := hF_.size; (try simp at hz0_)
          (try simp at hc0_ hf0_)
          have : w.heap.size < w0_.heap.size := by omega
          have : w.heap.size + 1 < w0_.heap.size := by omega
          have : w5.heap.size < w0_.heap.size := by omega
          have : b7w4 < w0_.heap.size := by omega
          have : b7w6 < w0_.heap.size := by omega
          simp only [DepsR, Region.binds, Nat.zero_add, Nat.reduceAdd, true_implies, Bool.false_eq_true, false_implies, and_true, true_and, BEq.rfl, reduceCtorEq] at hd_
          go_simp
          exact hK_.out _ _ _ (by first | rfl | (simp only [Act.put, List.setIfInBounds_toArray, List.set_cons_zero, List.set_cons_succ, hd_]; done) | (simp only [Act.put, List.setIfInBounds_toArray, List.set_cons_zero, List.set_cons_succ, hd_]; rfl)) (Below.refl _ _) rfl (fun h => by cases h)
        · intro w0_ hF_ hd_ Q_ K_ hK_
          have hc0_ := (bcell hF_).1
          have hf0_ := (bcell hF_).2
          have hz0_ := hF_.size; (try simp at hz0_)
          (try simp at hc0_ hf0_)
          have : w.heap.size < w0_.heap.size := by omega
          have : w.heap.size + 1 < w0_.heap.size := by omega
          have : w5.heap.size < w0_.heap.size := by omega
          have : b7w4 < w0_.heap.size := by omega
          have : b7w6 < w0_.heap.size := by omega
          simp only [DepsR, Region.binds, Nat.zero_add, Nat.reduceAdd, true_implies, Bool.false_eq_true, false_implies, and_true, true_and, BEq.rfl, reduceCtorEq] at hd_
          go_simp
          exact hK_.out _ _ _ (by first | rfl | (simp only [Act.put, List.setIfInBounds_toArray, List.set_cons_zero, List.set_cons_succ, hd_]; done) | (simp only [Act.put, List.setIfInBounds_toArray, List.set_cons_zero, List.set_cons_succ, hd_]; rfl)) (Below.refl _ _) rfl (fun h => by cases h)
        · intro w0_ hF_ hd_ Q_ K_ hK_
          have hc0_ := (bcell hF_).1
          have hf0_ := (bcell hF_).2
          have hz0_ := hF_.size; (try simp at hz0_)
          (try simp at hc0_ hf0_)
          have : w.heap.size < w0_.heap.size := by omega
          have : w.heap.size + 1 < w0_.heap.size := by omega
          have : w5.heap.size < w0_.heap.size := by omega
          have : b7w4 < w0_.heap.size := by omega
          have : b7w6 < w0_.heap.size := by omega
          simp only [DepsR, Region.binds, Nat.zero_add, Nat.reduceAdd, true_implies, Bool.false_eq_true, false_implies, and_true, true_and, BEq.rfl, reduceCtorEq] at hd_
          go_simp
          exact hK_.out _ _ _ (by first | rfl | (simp only [Act.put, List.setIfInBounds_toArray, List.set_cons_zero, List.set_cons_succ, hd_]; done) | (simp only [Act.put, List.setIfInBounds_toArray, List.set_cons_zero, List.set_cons_succ, hd_]; rfl)) (Below.refl _ _) rfl (fun h => by cases h)
        · intro w0_ hF_ hd_ Q_ K_ hK_
          have hc0_ := (bcell hF_).1
          have hf0_ := (bcell hF_).2
          have hz0_ := hF_.size; (try simp at hz0_)
          (try simp at hc0_ hf0_)
          have : w.heap.size < w0_.heap.size := by omega
          have : w.heap.size + 1 < w0_.heap.size := by omega
          have : w5.heap.size < w0_.heap.size := by omega
          have : b7w4 < w0_.heap.size := by omega
          have : b7w6 < w0_.heap.size := by omega
          simp only [DepsR, Region.binds, Nat.zero_add, Nat.reduceAdd, true_implies, Bool.false_eq_true, false_implies, and_true, true_and, BEq.rfl, reduceCtorEq] at hd_
          go_simp
          exact hK_.out _ _ _ (by first | rfl | (simp only [Act.put, List.setIfInBounds_toArray, List.set_cons_zero, List.set_cons_succ, hd_]; done) | (simp only [Act.put, List.setIfInBounds_toArray, List.set_cons_zero, List.set_cons_succ, hd_]; rfl)) (Below.refl _ _) rfl (fun h => by cases h)
        · intro w0_ hF_ hd_ Q_ K_ hK_
          have hc0_ := (bcell hF_).1
          have hf0_ := (bcell hF_).2
          have hz0_ := hF_.size; (try simp at hz0_)
          (try simp at hc0_ hf0_)
          have : w.heap.size < w0_.heap.size := by omega
          have : w.heap.size + 1 < w0_.heap.size := by omega
          have : w5.heap.size < w0_.heap.size := by omega
          have : b7w4 < w0_.heap.size := by omega
          have : b7w6 < w0_.heap.size := by omega
          simp only [DepsR, Region.binds, Nat.zero_add, Nat.reduceAdd, true_implies, Bool.false_eq_true, false_implies, and_true, true_and, BEq.rfl, reduceCtorEq] at hd_
          go_simp
          exact hK_.out _ _ _ (by first | rfl | (simp only [Act.put, List.setIfInBounds_toArray, List.set_cons_zero, List.set_cons_succ, hd_]; done) | (simp only [Act.put, List.setIfInBounds_toArray, List.set_cons_zero, List.set_cons_succ, hd_]; rfl)) (Below.refl _ _) rfl (fun h => by cases h)
        · intro w0_ hF_ hd_ Q_ K_ hK_
          have hc0_ := (bcell hF_).1
          have hf0_ := (bcell hF_).2
          have hz0_ := hF_.size; (try simp at hz0_)
          (try simp at hc0_ hf0_)
          have : w.heap.size < w0_.heap.size := by omega
          have : w.heap.size + 1 < w0_.heap.size := by omega
          have : w5.heap.size < w0_.heap.size := by omega
          have : b7w4 < w0_.heap.size := by omega
          have : b7w6 < w0_.heap.size := by omega
          simp only [DepsR, Region.binds, Nat.zero_add, Nat.reduceAdd, true_implies, Bool.false_eq_true, false_implies, and_true, true_and, BEq.rfl, reduceCtorEq] at hd_
          go_simp
          exact hK_.out _ _ _ (by first | rfl | (simp only [Act.put, List.setIfInBounds_toArray, List.set_cons_zero, List.set_cons_succ, hd_]; done) | (simp only [Act.put, List.setIfInBounds_toArray, List.set_cons_zero, List.set_cons_succ, hd_]; rfl)) (Below.refl _ _) rfl (fun h => by cases h)
        · intro w0_ hF_ hd_ Q_ K_ hK_
          have hc0_ := (bcell hF_).1
          have hf0_ := (bcell hF_).2
          have hz0_ := hF_.size; (try simp at hz0_)
          (try simp at hc0_ hf0_)
          have : w.heap.size < w0_.heap.size := by omega
          have : w.heap.size + 1 < w0_.heap.size := by omega
          have : w5.heap.size < w0_.heap.size := by omega
          have : b7w4 < w0_.heap.size := by omega
          have : b7w6 < w0_.heap.size := by omega
          simp only [DepsR, Region.binds, Nat.zero_add, Nat.reduceAdd, true_implies, Bool.false_eq_true, false_implies, and_true, true_and, BEq.rfl, reduceCtorEq] at hd_
          go_simp
          refine (C3.out _).mono ?_
          rintro e_ w1_ ⟨rfl, hb_⟩
          exact hK_.out _ _ _ (by first | rfl | (simp only [Act.put, List.setIfInBounds_toArray, List.set_cons_zero, List.set_cons_succ, hd_]; done) | (simp only [Act.put, List.setIfInBounds_toArray, List.set_cons_zero, List.set_cons_succ, hd_]; rfl)) hb_ rfl (fun h => by cases h)
        · intro w0_ hF_ hd_ Q_ K_ hK_
          have hc0_ := (bcell hF_).1
          have hf0_ := (bcell hF_).2
          have hz0_ := hF_.size; (try simp at hz0_)
          (try simp at hc0_ hf0_)
          have : w.heap.size < w0_.heap.size := by omega
          have : w.heap.size + 1 < w0_.heap.size := by omega
          have : w5.heap.size < w0_.heap.size := by omega
          have : b7w4 < w0_.heap.size := by omega
          have : b7w6 < w0_.heap.size := by omega
          simp only [DepsR, Region.binds, Nat.zero_add, Nat.reduceAdd, true_implies, Bool.false_eq_true, false_implies, and_true, true_and, BEq.rfl, reduceCtorEq] at hd_
          go_simp
          refine (C7.out _).mono ?_
          rintro e_ w1_ ⟨rfl, hb_⟩
          exact hK_.out _ _ _ (by first | rfl | (simp only [Act.put, List.setIfInBounds_toArray, List.set_cons_zero, List.set_cons_succ, hd_]; done) | (simp only [Act.put, List.setIfInBounds_toArray, List.set_cons_zero, List.set_cons_succ, hd_]; rfl)) hb_ rfl (fun h => by cases h)
        · intro w0_ hF_ hd_ Q_ K_ hK_
          have hc0_ := (bcell hF_).1
          have hf0_ := (bcell hF_).2
          have hz0_ := hF_.size; (try simp at hz0_)
          (try simp at hc0_ hf0_)
          have : w.heap.size < w0_.heap.size := by omega
          have : w.heap.size + 1 < w0_.heap.size := by omega
          have : w5.heap.size < w0_.heap.size := by omega
          have : b7w4 < w0_.heap.size := by omega
          have : b7w6 < w0_.heap.size := by omega
          simp only [DepsR, Region.binds, Nat.zero_add, Nat.reduceAdd, true_implies, Bool.false_eq_true, false_implies, and_true, true_and, BEq.rfl, reduceCtorEq] at hd_
          go_simp
          exact hK_.out _ _ _ (by first | rfl | (simp only [Act.put, List.setIfInBounds_toArray, List.set_cons_zero, List.set_cons_succ, hd_]; done) | (simp only [Act.put, List.setIfInBounds_toArray, List.set_cons_zero, List.set_cons_succ, hd_]; rfl)) (Below.refl _ _) rfl (fun h => by cases h)
        · intro w0_ hF_ hd_ Q_ K_ hK_
          have hc0_ := (bcell hF_).1
          have hf0_ := (bcell hF_).2
          have hz0_ := hF_.size; (try simp at hz0_)
          (try simp at hc0_ hf0_)
          have : w.heap.size < w0_.heap.size := by omega
          have : w.heap.size + 1 < w0_.heap.size := by omega
          have : w5.heap.size < w0_.heap.size := by omega
          have : b7w4 < w0_.heap.size := by omega
          have : b7w6 < w0_.heap.size := by omega
          simp only [DepsR, Region.binds, Nat.zero_add, Nat.reduceAdd, true_implies, Bool.false_eq_true, false_implies, and_true, true_and, BEq.rfl, reduceCtorEq] at hd_
          go_simp
          exact hK_.out _ _ _ (by first | rfl | (simp only [Act.put, List.setIfInBounds_toArray, List.set_cons_zero, List.set_cons_succ, hd_]; done) | (simp only [Act.put, List.setIfInBounds_toArray, List.set_cons_zero, List.set_cons_succ, hd_]; rfl)) (Below.refl _ _) rfl (fun h => by cases h)
        · intro w0_ hF_ hd_ Q_ K_ hK_
          have hc0_ := (bcell hF_).1
          have hf0_ := (bcell hF_).2
          have hz0_ := hF_.size; (try simp at hz0_)
          (try simp at hc0_ hf0_)
          have : w.heap.size < w0_.heap.size := by omega
          have : w.heap.size + 1 < w0_.heap.size := by omega
          have : w5.heap.size < w0_.heap.size := by omega
          have : b7w4 < w0_.heap.size := by omega
          have : b7w6 < w0_.heap.size := by omega
          simp only [DepsR, Region.binds, Nat.zero_add, Nat.reduceAdd, true_implies, Bool.false_eq_true, false_implies, and_true, true_and, BEq.rfl, reduceCtorEq] at hd_
          go_simp
          exact hK_.out _ _ _ (by first | rfl | (simp only [Act.put, List.setIfInBounds_toArray, List.set_cons_zero, List.set_cons_succ, hd_]; done) | (simp only [Act.put, List.setIfInBounds_toArray, List.set_cons_zero, List.set_cons_succ, hd_]; rfl)) (Below.refl _ _) rfl (fun h => by cases h)
        · intro w0_ hF_ hd_ Q_ K_ hK_
          have hc0_ := (bcell hF_).1
          have hf0_ := (bcell hF_).2
          have hz0_ := hF_.size; (try simp at hz0_)
          (try simp at hc0_ hf0_)
          have : w.heap.size < w0_.heap.size := by omega
          have : w.heap.size + 1 < w0_.heap.size := by omega
          have : w5.heap.size < w0_.heap.size := by omega
          have : b7w4 < w0_.heap.size := by omega
          have : b7w6 < w0_.heap.size := by omega
          simp only [DepsR, Region.binds, Nat.zero_add, Nat.reduceAdd, true_implies, Bool.false_eq_true, false_implies, and_true, true_and, BEq.rfl, reduceCtorEq] at hd_
          go_simp
          exact hK_.out _ _ _ (by first | rfl | (simp only [Act.put, List.setIfInBounds_toArray, List.set_cons_zero, List.set_cons_succ, hd_]; done) | (simp only [Act.put, List.setIfInBounds_toArray, List.set_cons_zero, List.set_cons_succ, hd_]; rfl)) (Below.refl _ _) rfl (fun h => by cases h)
        · intro w0_ hF_ hd_ Q_ K_ hK_
          have hc0_ := (bcell hF_).1
          have hf0_ := (bcell hF_).2
          have hz0_ := hF_.size; (try simp at hz0_)
          (try simp at hc0_ hf0_)
          have : w.heap.size < w0_.heap.size := by omega
          have : w.heap.size + 1 < w0_.heap.size := by omega
          have : w5.heap.size < w0_.heap.size := by omega
          have : b7w4 < w0_.heap.size := by omega
          have : b7w6 < w0_.heap.size := by omega
          simp only [DepsR, Region.binds, Nat.zero_add, Nat.reduceAdd, true_implies, Bool.false_eq_true, false_implies, and_true, true_and, BEq.rfl, reduceCtorEq] at hd_
          go_simp
          exact hK_.out _ _ _ (by first | rfl | (simp only [Act.put, List.setIfInBounds_toArray, List.set_cons_zero, List.set_cons_succ, hd_]; done) | (simp only [Act.put, List.setIfInBounds_toArray, List.set_cons_zero, List.set_cons_succ, hd_]; rfl)) (Below.refl _ _) rfl (fun h => by cases h)
        · intro w0_ hF_ hd_ Q_ K_ hK_
          have hc0_ := (bcell hF_).1
          have hf0_ := (bcell hF_).2
          have hz0_ := hF_.size; (try simp at hz0_)
          (try simp at hc0_ hf0_)
          have : w.heap.size < w0_.heap.size := by omega
          have : w.heap.size + 1 < w0_.heap.size := by omega
          have : w5.heap.size < w0_.heap.size := by omega
          have : b7w4 < w0_.heap.size := by omega
          have : b7w6 < w0_.heap.size := by omega
          simp only [DepsR, Region.binds, Nat.zero_add, Nat.reduceAdd, true_implies, Bool.false_eq_true, false_implies, and_true, true_and, BEq.rfl, reduceCtorEq] at hd_
          go_simp
          refine (C9.out _).mono ?_
          rintro e_ w1_ ⟨rfl, rfl⟩
          exact hK_.out _ _ _ (by first | rfl | (simp only [Act.put, List.setIfInBounds_toArray, List.set_cons_zero, List.set_cons_succ, hd_]; done) | (simp only [Act.put, List.setIfInBounds_toArray, List.set_cons_zero, List.set_cons_succ, hd_]; rfl)) (Below.refl _ _) rfl (fun h => by cases h)
        · intro w0_ hF_ hd_ Q_ K_ hK_
          have hc0_ := (bcell hF_).1
          have hf0_ := (bcell hF_).2
          have hz0_ := hF_.size; (try simp at hz0_)
          (try simp at hc0_ hf0_)
          have : w.heap.size < w0_.heap.size := by omega
          have : w.heap.size + 1 < w0_.heap.size := by omega
          have : w5.heap.size < w0_.heap.size := by omega
          have : b7w4 < w0_.heap.size := by omega
          have : b7w6 < w0_.heap.size := by omega
          simp only [DepsR, Region.binds, Nat.zero_add, Nat.reduceAdd, true_implies, Bool.false_eq_true, false_implies, and_true, true_and, BEq.rfl, reduceCtorEq] at hd_
          go_simp
          exact hK_.out _ _ _ (by first | rfl | (simp only [Act.put, List.setIfInBounds_toArray, List.set_cons_zero, List.set_cons_succ, hd_]; done) | (simp only [Act.put, List.setIfInBounds_toArray, List.set_cons_zero, List.set_cons_succ, hd_]; rfl)) (Below.refl _ _) rfl (fun h => by cases h)
        · intro w0_ hF_ hd_ Q_ K_ hK_
          have hc0_ := (bcell hF_).1
          have hf0_ := (bcell hF_).2
          have hz0_ := hF_.size; (try simp at hz0_)
          (try simp at hc0_ hf0_)
          have : w.heap.size < w0_.heap.size := by omega
          have : w.heap.size + 1 < w0_.heap.size := by omega
          have : w5.heap.size < w0_.heap.size := by omega
          have : b7w4 < w0_.heap.size := by omega
          have : b7w6 < w0_.heap.size := by omega
          simp only [DepsR, Region.binds, Nat.zero_add, Nat.reduceAdd, true_implies, Bool.false_eq_true, false_implies, and_true, true_and, BEq.rfl, reduceCtorEq] at hd_
          go_simp
          refine (C9.out _).mono ?_
          rintro e_ w1_ ⟨rfl, rfl⟩
          exact hK_.out _ _ _ (by first | rfl | (simp only [Act.put, List.setIfInBounds_toArray, List.set_cons_zero, List.set_cons_succ, hd_]; done) | (simp only [Act.put, List.setIfInBounds_toArray, List.set_cons_zero, List.set_cons_succ, hd_]; rfl)) (Below.refl _ _) rfl (fun h => by cases h)
        · intro w0_ hF_ hd_ Q_ K_ hK_
          have hc0_ := (bcell hF_).1
          have hf0_ := (bcell hF_).2
          have hz0_ := hF_.size; (try simp at hz0_)
          (try simp at hc0_ hf0_)
          have : w.heap.size < w0_.heap.size := by omega
          have : w.heap.size + 1 < w0_.heap.size := by omega
          have : w5.heap.size < w0_.heap.size := by omega
          have : b7w4 < w0_.heap.size := by omega
          have : b7w6 < w0_.heap.size := by omega
          simp only [DepsR, Region.binds, Nat.zero_add, Nat.reduceAdd, true_implies, Bool.false_eq_true, false_implies, and_true, true_and, BEq.rfl, reduceCtorEq] at hd_
          go_simp
          exact hK_.out _ _ _ (by first | rfl | (simp only [Act.put, List.setIfInBounds_toArray, List.set_cons_zero, List.set_cons_succ, hd_]; done) | (simp only [Act.put, List.setIfInBounds_toArray, List.set_cons_zero, List.set_cons_succ, hd_]; rfl)) (Below.refl _ _) rfl (fun h => by cases h)
        · intro w0_ hF_ hd_ Q_ K_ hK_
          have hc0_ := (bcell hF_).1
          have hf0_ := (bcell hF_).2
          have hz0_ := hF_.size; (try simp at hz0_)
          (try simp at hc0_ hf0_)
          have : w.heap.size < w0_.heap.size := by omega
          have : w.heap.size + 1 < w0_.heap.size := by omega
          have : w5.heap.size < w0_.heap.size := by omega
          have : b7w4 < w0_.heap.size := by omega
          have : b7w6 < w0_.heap.size := by omega
          simp only [DepsR, Region.binds, Nat.zero_add, Nat.reduceAdd, true_implies, Bool.false_eq_true, false_implies, and_true, true_and, BEq.rfl, reduceCtorEq] at hd_
          go_simp
          exact hK_.out _ _ _ (by first | rfl | (simp only [Act.put, List.setIfInBounds_toArray, List.set_cons_zero, List.set_cons_succ, hd_]; done) | (simp only [Act.put, List.setIfInBounds_toArray, List.set_cons_zero, List.set_cons_succ, hd_]; rfl)) (Below.refl _ _) rfl (fun h => by cases h)
        · intro w0_ hF_ hd_ Q_ K_ hK_
          have hc0_ := (bcell hF_).1
          have hf0_ := (bcell hF_).2
          have hz0_ := hF_.size; (try simp at hz0_)
          (try simp at hc0_ hf0_)
          have : w.heap.size < w0_.heap.size := by omega
          have : w.heap.size + 1 < w0_.heap.size := by omega
          have : w5.heap.size < w0_.heap.size := by omega
          have : b7w4 < w0_.heap.size := by omega
          have : b7w6 < w0_.heap.size := by omega
          simp only [DepsR, Region.binds, Nat.zero_add, Nat.reduceAdd, true_implies, Bool.false_eq_true, false_implies, and_true, true_and, BEq.rfl, reduceCtorEq] at hd_
          go_simp
          exact hK_.out _ _ _ (by first | rfl | (simp only [Act.put, List.setIfInBounds_toArray, List.set_cons_zero, List.set_cons_succ, hd_]; done) | (simp only [Act.put, List.setIfInBounds_toArray, List.set_cons_zero, List.set_cons_succ, hd_]; rfl)) (Below.refl _ _) rfl (fun h => by cases h)
        · intro w0_ hF_ hd_ Q_ K_ hK_
          have hc0_ := (bcell hF_).1
          have hf0_ := (bcell hF_).2
          have hz0_ := hF_.size; (try simp at hz0_)
          (try simp at hc0_ hf0_)
          have : w.heap.size < w0_.heap.size := by omega
          have : w.heap.size + 1 < w0_.heap.size := by omega
          have : w5.heap.size < w0_.heap.size := by omega
          have : b7w4 < w0_.heap.size := by omega
          have : b7w6 < w0_.heap.size := by omega
          simp only [DepsR, Region.binds, Nat.zero_add, Nat.reduceAdd, true_implies, Bool.false_eq_true, false_implies, and_true, true_and, BEq.rfl, reduceCtorEq] at hd_
          go_simp
          exact hK_.out _ _ _ (by first | rfl | (simp only [Act.put, List.setIfInBounds_toArray, List.set_cons_zero, List.set_cons_succ, hd_]; done) | (simp only [Act.put, List.setIfInBounds_toArray, List.set_cons_zero, List.set_cons_succ, hd_]; rfl)) (Below.refl _ _) rfl (fun h => by cases h)
        · intro w0_ hF_ hd_ Q_ K_ hK_
          have hc0_ := (bcell hF_).1
          have hf0_ := (bcell hF_).2
          have hz0_ := hF_.size; (try simp at hz0_)
          (try simp at hc0_ hf0_)
          have : w.heap.size < w0_.heap.size := by omega
          have : w.heap.size + 1 < w0_.heap.size := by omega
          have : w5.heap.size < w0_.heap.size := by omega
          have : b7w4 < w0_.heap.size := by omega
          have : b7w6 < w0_.heap.size := by omega
          simp only [DepsR, Region.binds, Nat.zero_add, Nat.reduceAdd, true_implies, Bool.false_eq_true, false_implies, and_true, true_and, BEq.rfl, reduceCtorEq] at hd_
          go_simp
          exact hK_.out _ _ _ (by first | rfl | (simp only [Act.put, List.setIfInBounds_toArray, List.set_cons_zero, List.set_cons_succ, hd_]; done) | (simp only [Act.put, List.setIfInBounds_toArray, List.set_cons_zero, List.set_cons_succ, hd_]; rfl)) (Below.refl _ _) rfl (fun h => by cases h)
        · intro w0_ hF_ hd_ Q_ K_ hK_
          have hc0_ := (bcell hF_).1
          have hf0_ := (bcell hF_).2
          have hz0_ := hF_.size; (try simp at hz0_)
          (try simp at hc0_ hf0_)
          have : w.heap.size < w0_.heap.size := by omega
          have : w.heap.size + 1 < w0_.heap.size := by omega
          have : w5.heap.size < w0_.heap.size := by omega
          have : b7w4 < w0_.heap.size := by omega
          have : b7w6 < w0_.heap.size := by omega
          simp only [DepsR, Region.binds, Nat.zero_add, Nat.reduceAdd, true_implies, Bool.false_eq_true, false_implies, and_true, true_and, BEq.rfl, reduceCtorEq] at hd_
          go_simp
          refine (C8.out _).mono ?_
          rintro e_ w1_ ⟨rfl, hb_⟩
          exact hK_.out _ _ _ (by first | rfl | (simp only [Act.put, List.setIfInBounds_toArray, List.set_cons_zero, List.set_cons_succ, hd_]; done) | (simp only [Act.put, List.setIfInBounds_toArray, List.set_cons_zero, List.set_cons_succ, hd_]; rfl)) hb_ rfl (fun h => by cases h)
        · intro w0_ hF_ hd_ Q_ K_ hK_
          have hc0_ := (bcell hF_).1
          have hf0_ := (bcell hF_).2
          have hz0_ := hF_.size; (try simp at hz0_)
          (try simp at hc0_ hf0_)
          have : w.heap.size < w0_.heap.size := by omega
          have : w.heap.size + 1 < w0_.heap.size := by omega
          have : w5.heap.size < w0_.heap.size := by omega
          have : b7w4 < w0_.heap.size := by omega
          have : b7w6 < w0_.heap.size := by omega
          simp only [DepsR, Region.binds, Nat.zero_add, Nat.reduceAdd, true_implies, Bool.false_eq_true, false_implies, and_true, true_and, BEq.rfl, reduceCtorEq] at hd_
          go_simp
          exact hK_.out _ _ _ (by first | rfl | (simp only [Act.put, List.setIfInBounds_toArray, List.set_cons_zero, List.set_cons_succ, hd_]; done) | (simp only [Act.put, List.setIfInBounds_toArray, List.set_cons_zero, List.set_cons_succ, hd_]; rfl)) (Below.refl _ _) rfl (fun h => by cases h)
        · intro w0_ hF_ hd_ Q_ K_ hK_
          have hc0_ := (bcell hF_).1
          have hf0_ := (bcell hF_).2
          have hz0_ := hF_.size; (try simp at hz0_)
          (try simp at hc0_ hf0_)
          have : w.heap.size < w0_.heap.size := by omega
          have : w.heap.size + 1 < w0_.heap.size := by omega
          have : w5.heap.size < w0_.heap.size := by omega
          have : b7w4 < w0_.heap.size := by omega
          have : b7w6 < w0_.heap.size := by omega
          simp only [DepsR, Region.binds, Nat.zero_add, Nat.reduceAdd, true_implies, Bool.false_eq_true, false_implies, and_true, true_and, BEq.rfl, reduceCtorEq] at hd_
          go_simp
          exact hK_.out _ _ _ (by first | rfl | (simp only [Act.put, List.setIfInBounds_toArray, List.set_cons_zero, List.set_cons_succ, hd_]; done) | (simp only [Act.put, List.setIfInBounds_toArray, List.set_cons_zero, List.set_cons_succ, hd_]; rfl)) (Below.refl _ _) rfl (fun h => by cases h)
        · intro w0_ hF_ hd_ Q_ K_ hK_
          have hc0_ := (bcell hF_).1
          have hf0_ := (bcell hF_).2
          have hz0_ := hF_.size; (try simp at hz0_)
          (try simp at hc0_ hf0_)
          have : w.heap.size < w0_.heap.size := by omega
          have : w.heap.size + 1 < w0_.heap.size := by omega
          have : w5.heap.size < w0_.heap.size := by omega
          have : b7w4 < w0_.heap.size := by omega
          have : b7w6 < w0_.heap.size := by omega
          simp only [DepsR, Region.binds, Nat.zero_add, Nat.reduceAdd, true_implies, Bool.false_eq_true, false_implies, and_true, true_and, BEq.rfl, reduceCtorEq] at hd_
          go_simp
          exact hK_.out _ _ _ (by first | rfl | (simp only [Act.put, List.setIfInBounds_toArray, List.set_cons_zero, List.set_cons_succ, hd_]; done) | (simp only [Act.put, List.setIfInBounds_toArray, List.set_cons_zero, List.set_cons_succ, hd_]; rfl)) (Below.refl _ _) rfl (fun h => by cases h)
      · intro vs w7 hBw7 hA_ hD_
        simp only [AllR, Nat.zero_add, Nat.reduceAdd, and_true] at hA_
        obtain ⟨r0_, r1_, r2_, r3_, r4_, r5_, r6_, r7_, r8_, r9_, r10_, r11_, r12_, r13_, r14_, r15_, r16_, r17_, r18_, r19_, r20_, r21_, r22_, r23_, r24_, r25_, r26_, r27_⟩ := hA_
        clear hD_
        simp only [putAll, Act.put, List.setIfInBounds_toArray, List.set_cons_zero, List.set_cons_succ, Nat.zero_add, Nat.reduceAdd, r0_, r1_, r2_, r3_, r4_, r5_, r6_, r7_, r8_, r9_, r10_, r11_, r12_, r13_, r14_, r15_, r16_, r17_, r18_, r19_, r20_, r21_, r22_, r23_, r24_, r25_, r26_, r27_]
        clear r0_ r1_ r2_ r3_ r4_ r5_ r6_ r7_ r8_ r9_ r10_ r11_ r12_ r13_ r14_ r15_ r16_ r17_ r18_ r19_ r20_ r21_ r22_ r23_ r24_ r25_ r26_ r27_
        obtain ⟨hcw7, hfw7⟩ := bcell hBw7; (try simp only [World.size_drew, World.cell?_drew, World.frozen?_drew] at hcw7 hfw7); have hzw7 := hBw7.size; (try simp at hzw7)
        have : w.heap.size < w7.heap.size := by omega
        have : w.heap.size + 1 < w7.heap.size := by omega
        have : w5.heap.size < w7.heap.size := by omega
        have : b7w4 < w7.heap.size := by omega
        have : b7w6 < w7.heap.size := by omega
        go_wp2
        go_ret
        refine ⟨rfl, ?_⟩
        repeat (first | (with_reducible exact Below.refl _ _) | (with_reducible refine Below.drew ?_) | (refine Below.setCell ?_ (by first | exact Nat.le_refl _ | (simp; done) | (simp; omega) | omega) _) | (refine Below.alloc ?_ (by first | exact Nat.le_refl _ | (simp; done) | (simp; omega) | omega) _) | (refine Below.trans ?_ (Below.mono (by assumption) (by first | exact Nat.le_refl _ | (simp; done) | (simp; omega) | omega))))
theorem signs_w (n : Bool) (m : Nat) (n' : Bool) (m' : Nat) (w : World) :
    Calls Try.prog 8 #[MV n m, MV n' m'] w fun e w' => e = .returned (.bool true) ∧ Below w.heap.size w w' := by
  cases h : goodB n m
  · exact signs_bad1 n n' m m' h w
  · cases h' : goodB n' m'
    · exact signs_bad2 n n' m m' h h' w
    · obtain ⟨x, hx, rfl, rfl⟩ := good_z h
      obtain ⟨y, hy, rfl, rfl⟩ := good_z h'
      exact signs_ok x y hx hy w
end Go.Proofs.Ytanfgolelhmdhaa
