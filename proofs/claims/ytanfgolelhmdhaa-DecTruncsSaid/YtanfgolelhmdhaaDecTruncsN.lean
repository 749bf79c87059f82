/- DecTruncs: what is left is below 0. -/
import Derived.Test.YtanfgolelhmdhaaDecTruncsM
namespace Go.Proofs.Ytanfgolelhmdhaa
set_option linter.unusedSimpArgs false
set_option linter.unusedVariables false
set_option linter.unnecessarySimpa false
open Go.RowKit

set_option maxHeartbeats 4000000 in
theorem truncs_neg (x : Int) (hx : x.natAbs < topN) (h0 : x.tmod 1000000 < 0) (w : World) :
    Calls Try.prog 9 #[ZV x] w fun e w' => e = .returned (.bool true) ∧ Below w.heap.size w w' := by
  have C0 := Lib.hid awake_t
  have C1 := Lib.hid (good_z' hx)
  have C2 := Lib.hid (trunc_z x hx)
  have C3 := Lib.hid (sub_trunc_w hx)
  have C4 := Lib.hid one_w
  have C5 := Lib.hid (mod_one_w hx)
  have C6 : Hid (∀ w, Calls Try.prog 34 #[ZV (truncZ x)] w fun e w' => e = .returned (ZV (truncZ x)) ∧ Below w.heap.size w w') := by
    intro w
    have k := trunc_z (truncZ x) (trunc_top hx) w
    rw [trunc_self] at k
    exact k
  have C9 : Hid (∀ w, Calls Try.prog 35 #[MV true (x.tmod 1000000).natAbs] w fun e w' => e = .returned (ZV (-x.tmod 1000000)) ∧ Below w.heap.size w w') := by
    have k := neg_z (x.tmod 1000000) (tmod_top x)
    have hm : MV true (x.tmod 1000000).natAbs = ZV (x.tmod 1000000) := MV_eq (decide_eq_true h0).symm rfl
    rw [hm]; exact k
  have C7 := Lib.hid (cmp_one_w (d := -x.tmod 1000000) (by have := tmod_small x; omega))
  have C8 := Lib.hid (cmp_zero_w (d := -x.tmod 1000000) (by have := tmod_small x; omega) (by omega))
  have Hn : Hid (negZ (x.tmod 1000000) = true) := decide_eq_true (by omega)
  have S2 : (negZ (x.tmod 1000000) == negZ x) = true := by rw [tmod_neg h0, show negZ (x.tmod 1000000) = true from decide_eq_true (by omega)]; rfl
  have n0 : eqM (negZ (x.tmod 1000000)) (x.tmod 1000000).natAbs false 0 = false := by
    have := eqM_z (x.tmod 1000000) 0
    rw [show (0 : Int).natAbs = 0 from rfl, show negZ 0 = false from rfl] at this
    rw [this]; simp; omega
  clear hx h0
  generalize truncZ x = t at *
  generalize x.tmod 1000000 = d at *
  generalize -d = nd at *
  have q1 : eqM (negZ d) d.natAbs (negZ d) d.natAbs = true := by rw [eqM_z]; simp
  have q2 : eqM (negZ t) t.natAbs (negZ t) t.natAbs = true := by rw [eqM_z]; simp
  have e1 := neq_mm (negZ d) (negZ d) d.natAbs d.natAbs
  have e2 := neq_mm (negZ t) (negZ t) t.natAbs t.natAbs
  have e3 := neq_m0 (negZ d) false d.natAbs
  rw [q1] at e1
  rw [q2] at e2
  rw [n0] at e3
  clear n0 q1 q2
  go_enter Try.func9, Try.ntmps9
  go_wp2_with fail; refine (C0.out _).mono ?_; rintro ew1 w1 ⟨rfl, hbw1⟩; obtain ⟨hcw1, hfw1⟩ := bcell hbw1; (try simp only [World.size_drew, World.cell?_drew, World.frozen?_drew] at hcw1 hfw1); have hzw1 := hbw1.size; (try simp at hzw1); have : w.heap.size < w1.heap.size := (by omega); (try dsimp only)
  go_wp2_with fail; refine (C1.out _).mono ?_; rintro ew2 w2 ⟨rfl, hbw2⟩; obtain ⟨hcw2, hfw2⟩ := bcell hbw2; (try simp only [World.size_drew, World.cell?_drew, World.frozen?_drew] at hcw2 hfw2); have hzw2 := hbw2.size; (try simp at hzw2); have : w.heap.size < w2.heap.size := (by omega); (try dsimp only)
  go_wp2_with fail; refine (C2.out _).mono ?_; rintro ew3 w3 ⟨rfl, hbw3⟩; obtain ⟨hcw3, hfw3⟩ := bcell hbw3; (try simp only [World.size_drew, World.cell?_drew, World.frozen?_drew] at hcw3 hfw3); have hzw3 := hbw3.size; (try simp at hzw3); have : w.heap.size < w3.heap.size := (by omega); (try dsimp only)
  go_wp2_with fail; refine (C3.out _).mono ?_; rintro ew4 w4 ⟨rfl, hbw4⟩; obtain ⟨hcw4, hfw4⟩ := bcell hbw4; (try simp only [World.size_drew, World.cell?_drew, World.frozen?_drew] at hcw4 hfw4); have hzw4 := hbw4.size; (try simp at hzw4); have : w.heap.size < w4.heap.size := (by omega); have : w3.heap.size < w4.heap.size := (by omega); (try dsimp only)
  go_wp2_with fail
  have : w.heap.size < w4.heap.size + 1 := by omega
  have : w3.heap.size < w4.heap.size + 1 := by omega
  refine wp_region_keep (t := fun j => match j with | 7 => 6 | k => k) (loud := fun j => match j with | 7 => true | _ => false)
    (R := fun j v u w' => match j with
      | 0 => v = ZV x
      | 1 => v = ZV 1000000
      | 2 => v = .tuple #[ZV d, .nilIface]
      | 3 => v = .tuple #[ZV d, .nilIface]
      | 4 => v = ZV d
      | 5 => v = .nilIface
      | 6 => NewR (w4.heap.size + 1) 24 3 v w'
      | 7 => HasR u 24 #[.bool (negZ d), .int .u64 (hiN d.natAbs), .int .u64 (loN d.natAbs)] w'
      | 8 => v = .nilIface
      | _ => True) (by kernel_rfl) (by kernel_rfl) ?_ ?_ ?_
  · intro j v u w1_ w2_ h_ hF_ hB_
    (try dsimp only at h_ ⊢)
    split at h_ <;> first | exact h_ | exact NewR.on h_ hB_ | exact HasR.on h_ hB_ | trivial
  · intro vs
    simp only [putAll, Act.put, List.setIfInBounds_toArray, List.set_cons_zero, List.set_cons_succ, Nat.zero_add, Nat.reduceAdd]
    refine ⟨?_, ?_, ?_, ?_, ?_, ?_, ?_, ?_, ?_, trivial⟩
    · intro w0_ hF_ hd_ Q_ K_ hK_
      have hc0_ := (bcell hF_).1
      have hf0_ := (bcell hF_).2
      have hz0_ := hF_.size; (try simp at hz0_)
      (try simp at hc0_ hf0_)
      have : w.heap.size < w0_.heap.size := by omega
      have : w3.heap.size < w0_.heap.size := by omega
      have : w4.heap.size < w0_.heap.size := by omega
      simp only [DepsR, Region.binds, Nat.zero_add, Nat.reduceAdd, true_implies, Bool.false_eq_true, false_implies, and_true, true_and, BEq.rfl, reduceCtorEq] at hd_
      go_simp
      exact hK_.out _ _ _ (by first | rfl | simp only [Act.put, List.setIfInBounds_toArray, List.set_cons_zero, List.set_cons_succ, hd_]) (Below.refl _ _) rfl
    · intro w0_ hF_ hd_ Q_ K_ hK_
      have hc0_ := (bcell hF_).1
      have hf0_ := (bcell hF_).2
      have hz0_ := hF_.size; (try simp at hz0_)
      (try simp at hc0_ hf0_)
      have : w.heap.size < w0_.heap.size := by omega
      have : w3.heap.size < w0_.heap.size := by omega
      have : w4.heap.size < w0_.heap.size := by omega
      simp only [DepsR, Region.binds, Nat.zero_add, Nat.reduceAdd, true_implies, Bool.false_eq_true, false_implies, and_true, true_and, BEq.rfl, reduceCtorEq] at hd_
      go_simp
      refine (C4.out _).mono ?_
      rintro e_ w1_ ⟨rfl, hb_⟩
      exact hK_.out _ _ _ (by first | rfl | simp only [Act.put, List.setIfInBounds_toArray, List.set_cons_zero, List.set_cons_succ, hd_]) hb_ rfl
    · intro w0_ hF_ hd_ Q_ K_ hK_
      have hc0_ := (bcell hF_).1
      have hf0_ := (bcell hF_).2
      have hz0_ := hF_.size; (try simp at hz0_)
      (try simp at hc0_ hf0_)
      have : w.heap.size < w0_.heap.size := by omega
      have : w3.heap.size < w0_.heap.size := by omega
      have : w4.heap.size < w0_.heap.size := by omega
      simp only [DepsR, Region.binds, Nat.zero_add, Nat.reduceAdd, true_implies, Bool.false_eq_true, false_implies, and_true, true_and, BEq.rfl, reduceCtorEq] at hd_
      go_simp
      refine (C5.out _).mono ?_
      rintro e_ w1_ ⟨rfl, hb_⟩
      exact hK_.out _ _ _ (by first | rfl | simp only [Act.put, List.setIfInBounds_toArray, List.set_cons_zero, List.set_cons_succ, hd_]) hb_ rfl
    · intro w0_ hF_ hd_ Q_ K_ hK_
      have hc0_ := (bcell hF_).1
      have hf0_ := (bcell hF_).2
      have hz0_ := hF_.size; (try simp at hz0_)
      (try simp at hc0_ hf0_)
      have : w.heap.size < w0_.heap.size := by omega
      have : w3.heap.size < w0_.heap.size := by omega
      have : w4.heap.size < w0_.heap.size := by omega
      simp only [DepsR, Region.binds, Nat.zero_add, Nat.reduceAdd, true_implies, Bool.false_eq_true, false_implies, and_true, true_and, BEq.rfl, reduceCtorEq] at hd_
      go_simp
      exact hK_.out _ _ _ (by first | rfl | simp only [Act.put, List.setIfInBounds_toArray, List.set_cons_zero, List.set_cons_succ, hd_]) (Below.refl _ _) rfl
    · intro w0_ hF_ hd_ Q_ K_ hK_
      have hc0_ := (bcell hF_).1
      have hf0_ := (bcell hF_).2
      have hz0_ := hF_.size; (try simp at hz0_)
      (try simp at hc0_ hf0_)
      have : w.heap.size < w0_.heap.size := by omega
      have : w3.heap.size < w0_.heap.size := by omega
      have : w4.heap.size < w0_.heap.size := by omega
      simp only [DepsR, Region.binds, Nat.zero_add, Nat.reduceAdd, true_implies, Bool.false_eq_true, false_implies, and_true, true_and, BEq.rfl, reduceCtorEq] at hd_
      go_simp
      exact hK_.out _ _ _ (by first | rfl | simp only [Act.put, List.setIfInBounds_toArray, List.set_cons_zero, List.set_cons_succ, hd_]) (Below.refl _ _) rfl
    · intro w0_ hF_ hd_ Q_ K_ hK_
      have hc0_ := (bcell hF_).1
      have hf0_ := (bcell hF_).2
      have hz0_ := hF_.size; (try simp at hz0_)
      (try simp at hc0_ hf0_)
      have : w.heap.size < w0_.heap.size := by omega
      have : w3.heap.size < w0_.heap.size := by omega
      have : w4.heap.size < w0_.heap.size := by omega
      simp only [DepsR, Region.binds, Nat.zero_add, Nat.reduceAdd, true_implies, Bool.false_eq_true, false_implies, and_true, true_and, BEq.rfl, reduceCtorEq] at hd_
      go_simp
      exact hK_.out _ _ _ (by first | rfl | simp only [Act.put, List.setIfInBounds_toArray, List.set_cons_zero, List.set_cons_succ, hd_]) (Below.refl _ _) rfl
    · intro w0_ hF_ hd_ Q_ K_ hK_
      have hc0_ := (bcell hF_).1
      have hf0_ := (bcell hF_).2
      have hz0_ := hF_.size; (try simp at hz0_)
      (try simp at hc0_ hf0_)
      have : w.heap.size < w0_.heap.size := by omega
      have : w3.heap.size < w0_.heap.size := by omega
      have : w4.heap.size < w0_.heap.size := by omega
      simp only [DepsR, Region.binds, Nat.zero_add, Nat.reduceAdd, true_implies, Bool.false_eq_true, false_implies, and_true, true_and, BEq.rfl, reduceCtorEq] at hd_
      go_simp
      exact hK_.out _ _ _ (by first | rfl | simp only [Act.put, List.setIfInBounds_toArray, List.set_cons_zero, List.set_cons_succ, hd_]) ((Below.refl _ _).alloc (Nat.le_refl _) _) ⟨_, _, rfl, by omega, rfl, Lies.fresh _ _ _⟩
    · intro w0_ hF_ hd_ Q_ K_ hK_
      have hc0_ := (bcell hF_).1
      have hf0_ := (bcell hF_).2
      have hz0_ := hF_.size; (try simp at hz0_)
      (try simp at hc0_ hf0_)
      have : w.heap.size < w0_.heap.size := by omega
      have : w3.heap.size < w0_.heap.size := by omega
      have : w4.heap.size < w0_.heap.size := by omega
      simp only [DepsR, Region.binds, Nat.zero_add, Nat.reduceAdd, true_implies, Bool.false_eq_true, false_implies, and_true, true_and, BEq.rfl, reduceCtorEq] at hd_
      obtain ⟨b_, cs_, hv_, hB_, hn_, hl_⟩ : NewR (w4.heap.size + 1) 24 3 (vs 6) w0_ := by simp only [hd_]
      obtain ⟨c0_, c1_, c2_, rfl⟩ := size3 hn_
      obtain ⟨k0_, k1_, k2_, f0_, f1_, f2_⟩ := hl_.cells3
      go_simp
      refine hK_.out _ undef _ (by first | rfl | simp only [Act.put, List.setIfInBounds_toArray, List.set_cons_zero, List.set_cons_succ, hd_, hv_]) ⟨?_, fun j_ hj_ h_ => ?_⟩ ⟨b_, by simpa using hv_, hl_.put3 _ _ _⟩
      · refine Below.setCell ?_ (by simp; omega) _; refine Below.setCell ?_ (by simp; omega) _; refine Below.setCell ?_ (by simp; omega) _; exact hF_
      · (try dsimp only at h_ ⊢)
        split at h_ <;> first | exact h_ | exact ⟨b_, _, by simpa using hv_, hB_, rfl, hl_.put3 _ _ _⟩ | trivial
    · intro w0_ hF_ hd_ Q_ K_ hK_
      have hc0_ := (bcell hF_).1
      have hf0_ := (bcell hF_).2
      have hz0_ := hF_.size; (try simp at hz0_)
      (try simp at hc0_ hf0_)
      have : w.heap.size < w0_.heap.size := by omega
      have : w3.heap.size < w0_.heap.size := by omega
      have : w4.heap.size < w0_.heap.size := by omega
      simp only [DepsR, Region.binds, Nat.zero_add, Nat.reduceAdd, true_implies, Bool.false_eq_true, false_implies, and_true, true_and, BEq.rfl, reduceCtorEq] at hd_
      go_simp
      exact hK_.out _ _ _ (by first | rfl | simp only [Act.put, List.setIfInBounds_toArray, List.set_cons_zero, List.set_cons_succ, hd_]) (Below.refl _ _) rfl
  · intro vs w5 hBw5 hA_
    simp only [AllR, Nat.zero_add, Nat.reduceAdd, and_true] at hA_
    obtain ⟨r0_, r1_, r2_, r3_, r4_, r5_, r6_, r7_, r8_⟩ := hA_
    obtain ⟨b6, e6_, l6⟩ := r7_
    obtain ⟨b_, cs_, e_, hb6, n_, l_⟩ := r6_
    obtain rfl : b_ = b6 := by have := e_.symm.trans e6_; simpa using this
    clear e_ n_ l_
    simp only [putAll, Act.put, List.setIfInBounds_toArray, List.set_cons_zero, List.set_cons_succ, Nat.zero_add, Nat.reduceAdd, r0_, r1_, r2_, r3_, r4_, r5_, r8_, e6_]
    clear r0_ r1_ r2_ r3_ r4_ r5_ r8_ e6_
    obtain ⟨hcw5, hfw5⟩ := bcell hBw5; (try simp only [World.size_drew, World.cell?_drew, World.frozen?_drew] at hcw5 hfw5); have hzw5 := hBw5.size; (try simp at hzw5)
    have : w.heap.size < w5.heap.size := by omega
    have : w3.heap.size < w5.heap.size := by omega
    have : w4.heap.size < w5.heap.size := by omega
    obtain ⟨k6_0, k6_1, k6_2, f6_0, f6_1, f6_2⟩ := l6.cells3
    have : b_ < w5.heap.size := l6.lt
    go_wp2_with fail
    refine wp_region_keep (t := fun j => j) (loud := fun _ => false)
      (R := fun j v u w' => match j with
        | 0 => v = .nilIface
        | 1 => v = .bool false
        | 2 => v = .bool false
        | 3 => v = .nilIface
        | 4 => v = .bool false
        | 5 => v = .bool false
        | 6 => v = .bool false
        | 7 => v = ZV d
        | 8 => v = ZV d
        | 9 => v = .bool false
        | 10 => v = .bool false
        | 11 => v = .bool false
        | 12 => v = ZV t
        | 13 => v = ZV t
        | 14 => v = ZV t
        | 15 => v = .bool false
        | 16 => v = .bool false
        | 17 => v = .bool false
        | 18 => v = ZV d
        | 19 => v = .agg #[.bool false, .int .u64 0, .int .u64 0]
        | 20 => v = .bool true
        | 21 => v = .bool true
        | 22 => v = .pointer (some ⟨w4.heap.size, 0, none⟩)
        | 23 => v = .bool (negZ d)
        | 24 => v = .pointer (some ⟨w.heap.size, 0, none⟩)
        | 25 => v = .bool (negZ x)
        | 26 => v = .bool false
        | 27 => v = .bool false
        | 28 => v = .bool false
        | _ => True) (by kernel_rfl) (by kernel_rfl) ?_ ?_ ?_
    · intro j v u w1_ w2_ h_ hF_ hB_
      (try dsimp only at h_ ⊢)
      split at h_ <;> first | exact h_ | exact NewR.on h_ hB_ | exact HasR.on h_ hB_ | trivial
    · intro vs
      simp only [putAll, Act.put, List.setIfInBounds_toArray, List.set_cons_zero, List.set_cons_succ, Nat.zero_add, Nat.reduceAdd]
      refine ⟨?_, ?_, ?_, ?_, ?_, ?_, ?_, ?_, ?_, ?_, ?_, ?_, ?_, ?_, ?_, ?_, ?_, ?_, ?_, ?_, ?_, ?_, ?_, ?_, ?_, ?_, ?_, ?_, ?_, trivial⟩
      · intro w0_ hF_ hd_ Q_ K_ hK_
        have hc0_ := (bcell hF_).1
        have hf0_ := (bcell hF_).2
        have hz0_ := hF_.size; (try simp at hz0_)
        (try simp at hc0_ hf0_)
        have : w.heap.size < w0_.heap.size := by omega
        have : w3.heap.size < w0_.heap.size := by omega
        have : w4.heap.size < w0_.heap.size := by omega
        simp only [DepsR, Region.binds, Nat.zero_add, Nat.reduceAdd, true_implies, Bool.false_eq_true, false_implies, and_true, true_and, BEq.rfl, reduceCtorEq] at hd_
        go_simp
        exact hK_.out _ _ _ (by first | rfl | simp only [Act.put, List.setIfInBounds_toArray, List.set_cons_zero, List.set_cons_succ, hd_]) (Below.refl _ _) rfl
      · intro w0_ hF_ hd_ Q_ K_ hK_
        have hc0_ := (bcell hF_).1
        have hf0_ := (bcell hF_).2
        have hz0_ := hF_.size; (try simp at hz0_)
        (try simp at hc0_ hf0_)
        have : w.heap.size < w0_.heap.size := by omega
        have : w3.heap.size < w0_.heap.size := by omega
        have : w4.heap.size < w0_.heap.size := by omega
        simp only [DepsR, Region.binds, Nat.zero_add, Nat.reduceAdd, true_implies, Bool.false_eq_true, false_implies, and_true, true_and, BEq.rfl, reduceCtorEq] at hd_
        go_simp
        exact hK_.out _ _ _ (by first | rfl | simp only [Act.put, List.setIfInBounds_toArray, List.set_cons_zero, List.set_cons_succ, hd_]) (Below.refl _ _) rfl
      · intro w0_ hF_ hd_ Q_ K_ hK_
        have hc0_ := (bcell hF_).1
        have hf0_ := (bcell hF_).2
        have hz0_ := hF_.size; (try simp at hz0_)
        (try simp at hc0_ hf0_)
        have : w.heap.size < w0_.heap.size := by omega
        have : w3.heap.size < w0_.heap.size := by omega
        have : w4.heap.size < w0_.heap.size := by omega
        simp only [DepsR, Region.binds, Nat.zero_add, Nat.reduceAdd, true_implies, Bool.false_eq_true, false_implies, and_true, true_and, BEq.rfl, reduceCtorEq] at hd_
        go_simp
        exact hK_.out _ _ _ (by first | rfl | simp only [Act.put, List.setIfInBounds_toArray, List.set_cons_zero, List.set_cons_succ, hd_]) (Below.refl _ _) rfl
      · intro w0_ hF_ hd_ Q_ K_ hK_
        have hc0_ := (bcell hF_).1
        have hf0_ := (bcell hF_).2
        have hz0_ := hF_.size; (try simp at hz0_)
        (try simp at hc0_ hf0_)
        have : w.heap.size < w0_.heap.size := by omega
        have : w3.heap.size < w0_.heap.size := by omega
        have : w4.heap.size < w0_.heap.size := by omega
        simp only [DepsR, Region.binds, Nat.zero_add, Nat.reduceAdd, true_implies, Bool.false_eq_true, false_implies, and_true, true_and, BEq.rfl, reduceCtorEq] at hd_
        go_simp
        exact hK_.out _ _ _ (by first | rfl | simp only [Act.put, List.setIfInBounds_toArray, List.set_cons_zero, List.set_cons_succ, hd_]) (Below.refl _ _) rfl
      · intro w0_ hF_ hd_ Q_ K_ hK_
        have hc0_ := (bcell hF_).1
        have hf0_ := (bcell hF_).2
        have hz0_ := hF_.size; (try simp at hz0_)
        (try simp at hc0_ hf0_)
        have : w.heap.size < w0_.heap.size := by omega
        have : w3.heap.size < w0_.heap.size := by omega
        have : w4.heap.size < w0_.heap.size := by omega
        simp only [DepsR, Region.binds, Nat.zero_add, Nat.reduceAdd, true_implies, Bool.false_eq_true, false_implies, and_true, true_and, BEq.rfl, reduceCtorEq] at hd_
        go_simp
        exact hK_.out _ _ _ (by first | rfl | simp only [Act.put, List.setIfInBounds_toArray, List.set_cons_zero, List.set_cons_succ, hd_]) (Below.refl _ _) rfl
      · intro w0_ hF_ hd_ Q_ K_ hK_
        have hc0_ := (bcell hF_).1
        have hf0_ := (bcell hF_).2
        have hz0_ := hF_.size; (try simp at hz0_)
        (try simp at hc0_ hf0_)
        have : w.heap.size < w0_.heap.size := by omega
        have : w3.heap.size < w0_.heap.size := by omega
        have : w4.heap.size < w0_.heap.size := by omega
        simp only [DepsR, Region.binds, Nat.zero_add, Nat.reduceAdd, true_implies, Bool.false_eq_true, false_implies, and_true, true_and, BEq.rfl, reduceCtorEq] at hd_
        go_simp
        exact hK_.out _ _ _ (by first | rfl | simp only [Act.put, List.setIfInBounds_toArray, List.set_cons_zero, List.set_cons_succ, hd_]) (Below.refl _ _) rfl
      · intro w0_ hF_ hd_ Q_ K_ hK_
        have hc0_ := (bcell hF_).1
        have hf0_ := (bcell hF_).2
        have hz0_ := hF_.size; (try simp at hz0_)
        (try simp at hc0_ hf0_)
        have : w.heap.size < w0_.heap.size := by omega
        have : w3.heap.size < w0_.heap.size := by omega
        have : w4.heap.size < w0_.heap.size := by omega
        simp only [DepsR, Region.binds, Nat.zero_add, Nat.reduceAdd, true_implies, Bool.false_eq_true, false_implies, and_true, true_and, BEq.rfl, reduceCtorEq] at hd_
        go_simp
        exact hK_.out _ _ _ (by first | rfl | simp only [Act.put, List.setIfInBounds_toArray, List.set_cons_zero, List.set_cons_succ, hd_]) (Below.refl _ _) rfl
      · intro w0_ hF_ hd_ Q_ K_ hK_
        have hc0_ := (bcell hF_).1
        have hf0_ := (bcell hF_).2
        have hz0_ := hF_.size; (try simp at hz0_)
        (try simp at hc0_ hf0_)
        have : w.heap.size < w0_.heap.size := by omega
        have : w3.heap.size < w0_.heap.size := by omega
        have : w4.heap.size < w0_.heap.size := by omega
        simp only [DepsR, Region.binds, Nat.zero_add, Nat.reduceAdd, true_implies, Bool.false_eq_true, false_implies, and_true, true_and, BEq.rfl, reduceCtorEq] at hd_
        go_simp
        exact hK_.out _ _ _ (by first | rfl | simp only [Act.put, List.setIfInBounds_toArray, List.set_cons_zero, List.set_cons_succ, hd_]) (Below.refl _ _) rfl
      · intro w0_ hF_ hd_ Q_ K_ hK_
        have hc0_ := (bcell hF_).1
        have hf0_ := (bcell hF_).2
        have hz0_ := hF_.size; (try simp at hz0_)
        (try simp at hc0_ hf0_)
        have : w.heap.size < w0_.heap.size := by omega
        have : w3.heap.size < w0_.heap.size := by omega
        have : w4.heap.size < w0_.heap.size := by omega
        simp only [DepsR, Region.binds, Nat.zero_add, Nat.reduceAdd, true_implies, Bool.false_eq_true, false_implies, and_true, true_and, BEq.rfl, reduceCtorEq] at hd_
        go_simp
        exact hK_.out _ _ _ (by first | rfl | simp only [Act.put, List.setIfInBounds_toArray, List.set_cons_zero, List.set_cons_succ, hd_]) (Below.refl _ _) rfl
      · intro w0_ hF_ hd_ Q_ K_ hK_
        have hc0_ := (bcell hF_).1
        have hf0_ := (bcell hF_).2
        have hz0_ := hF_.size; (try simp at hz0_)
        (try simp at hc0_ hf0_)
        have : w.heap.size < w0_.heap.size := by omega
        have : w3.heap.size < w0_.heap.size := by omega
        have : w4.heap.size < w0_.heap.size := by omega
        simp only [DepsR, Region.binds, Nat.zero_add, Nat.reduceAdd, true_implies, Bool.false_eq_true, false_implies, and_true, true_and, BEq.rfl, reduceCtorEq] at hd_
        go_simp
        exact hK_.out _ _ _ (by first | rfl | simp only [Act.put, List.setIfInBounds_toArray, List.set_cons_zero, List.set_cons_succ, hd_]) (Below.refl _ _) rfl
      · intro w0_ hF_ hd_ Q_ K_ hK_
        have hc0_ := (bcell hF_).1
        have hf0_ := (bcell hF_).2
        have hz0_ := hF_.size; (try simp at hz0_)
        (try simp at hc0_ hf0_)
        have : w.heap.size < w0_.heap.size := by omega
        have : w3.heap.size < w0_.heap.size := by omega
        have : w4.heap.size < w0_.heap.size := by omega
        simp only [DepsR, Region.binds, Nat.zero_add, Nat.reduceAdd, true_implies, Bool.false_eq_true, false_implies, and_true, true_and, BEq.rfl, reduceCtorEq] at hd_
        go_simp
        exact hK_.out _ _ _ (by first | rfl | simp only [Act.put, List.setIfInBounds_toArray, List.set_cons_zero, List.set_cons_succ, hd_]) (Below.refl _ _) rfl
      · intro w0_ hF_ hd_ Q_ K_ hK_
        have hc0_ := (bcell hF_).1
        have hf0_ := (bcell hF_).2
        have hz0_ := hF_.size; (try simp at hz0_)
        (try simp at hc0_ hf0_)
        have : w.heap.size < w0_.heap.size := by omega
        have : w3.heap.size < w0_.heap.size := by omega
        have : w4.heap.size < w0_.heap.size := by omega
        simp only [DepsR, Region.binds, Nat.zero_add, Nat.reduceAdd, true_implies, Bool.false_eq_true, false_implies, and_true, true_and, BEq.rfl, reduceCtorEq] at hd_
        go_simp
        exact hK_.out _ _ _ (by first | rfl | simp only [Act.put, List.setIfInBounds_toArray, List.set_cons_zero, List.set_cons_succ, hd_]) (Below.refl _ _) rfl
      · intro w0_ hF_ hd_ Q_ K_ hK_
        have hc0_ := (bcell hF_).1
        have hf0_ := (bcell hF_).2
        have hz0_ := hF_.size; (try simp at hz0_)
        (try simp at hc0_ hf0_)
        have : w.heap.size < w0_.heap.size := by omega
        have : w3.heap.size < w0_.heap.size := by omega
        have : w4.heap.size < w0_.heap.size := by omega
        simp only [DepsR, Region.binds, Nat.zero_add, Nat.reduceAdd, true_implies, Bool.false_eq_true, false_implies, and_true, true_and, BEq.rfl, reduceCtorEq] at hd_
        go_simp
        exact hK_.out _ _ _ (by first | rfl | simp only [Act.put, List.setIfInBounds_toArray, List.set_cons_zero, List.set_cons_succ, hd_]) (Below.refl _ _) rfl
      · intro w0_ hF_ hd_ Q_ K_ hK_
        have hc0_ := (bcell hF_).1
        have hf0_ := (bcell hF_).2
        have hz0_ := hF_.size; (try simp at hz0_)
        (try simp at hc0_ hf0_)
        have : w.heap.size < w0_.heap.size := by omega
        have : w3.heap.size < w0_.heap.size := by omega
        have : w4.heap.size < w0_.heap.size := by omega
        simp only [DepsR, Region.binds, Nat.zero_add, Nat.reduceAdd, true_implies, Bool.false_eq_true, false_implies, and_true, true_and, BEq.rfl, reduceCtorEq] at hd_
        go_simp
        refine (C6.out _).mono ?_
        rintro e_ w1_ ⟨rfl, hb_⟩
        exact hK_.out _ _ _ (by first | rfl | simp only [Act.put, List.setIfInBounds_toArray, List.set_cons_zero, List.set_cons_succ, hd_]) hb_ rfl
      · intro w0_ hF_ hd_ Q_ K_ hK_
        have hc0_ := (bcell hF_).1
        have hf0_ := (bcell hF_).2
        have hz0_ := hF_.size; (try simp at hz0_)
        (try simp at hc0_ hf0_)
        have : w.heap.size < w0_.heap.size := by omega
        have : w3.heap.size < w0_.heap.size := by omega
        have : w4.heap.size < w0_.heap.size := by omega
        simp only [DepsR, Region.binds, Nat.zero_add, Nat.reduceAdd, true_implies, Bool.false_eq_true, false_implies, and_true, true_and, BEq.rfl, reduceCtorEq] at hd_
        go_simp
        exact hK_.out _ _ _ (by first | rfl | simp only [Act.put, List.setIfInBounds_toArray, List.set_cons_zero, List.set_cons_succ, hd_]) (Below.refl _ _) rfl
      · intro w0_ hF_ hd_ Q_ K_ hK_
        have hc0_ := (bcell hF_).1
        have hf0_ := (bcell hF_).2
        have hz0_ := hF_.size; (try simp at hz0_)
        (try simp at hc0_ hf0_)
        have : w.heap.size < w0_.heap.size := by omega
        have : w3.heap.size < w0_.heap.size := by omega
        have : w4.heap.size < w0_.heap.size := by omega
        simp only [DepsR, Region.binds, Nat.zero_add, Nat.reduceAdd, true_implies, Bool.false_eq_true, false_implies, and_true, true_and, BEq.rfl, reduceCtorEq] at hd_
        go_simp
        exact hK_.out _ _ _ (by first | rfl | simp only [Act.put, List.setIfInBounds_toArray, List.set_cons_zero, List.set_cons_succ, hd_]) (Below.refl _ _) rfl
      · intro w0_ hF_ hd_ Q_ K_ hK_
        have hc0_ := (bcell hF_).1
        have hf0_ := (bcell hF_).2
        have hz0_ := hF_.size; (try simp at hz0_)
        (try simp at hc0_ hf0_)
        have : w.heap.size < w0_.heap.size := by omega
        have : w3.heap.size < w0_.heap.size := by omega
        have : w4.heap.size < w0_.heap.size := by omega
        simp only [DepsR, Region.binds, Nat.zero_add, Nat.reduceAdd, true_implies, Bool.false_eq_true, false_implies, and_true, true_and, BEq.rfl, reduceCtorEq] at hd_
        go_simp
        exact hK_.out _ _ _ (by first | rfl | simp only [Act.put, List.setIfInBounds_toArray, List.set_cons_zero, List.set_cons_succ, hd_]) (Below.refl _ _) rfl
      · intro w0_ hF_ hd_ Q_ K_ hK_
        have hc0_ := (bcell hF_).1
        have hf0_ := (bcell hF_).2
        have hz0_ := hF_.size; (try simp at hz0_)
        (try simp at hc0_ hf0_)
        have : w.heap.size < w0_.heap.size := by omega
        have : w3.heap.size < w0_.heap.size := by omega
        have : w4.heap.size < w0_.heap.size := by omega
        simp only [DepsR, Region.binds, Nat.zero_add, Nat.reduceAdd, true_implies, Bool.false_eq_true, false_implies, and_true, true_and, BEq.rfl, reduceCtorEq] at hd_
        go_simp
        exact hK_.out _ _ _ (by first | rfl | simp only [Act.put, List.setIfInBounds_toArray, List.set_cons_zero, List.set_cons_succ, hd_]) (Below.refl _ _) rfl
      · intro w0_ hF_ hd_ Q_ K_ hK_
        have hc0_ := (bcell hF_).1
        have hf0_ := (bcell hF_).2
        have hz0_ := hF_.size; (try simp at hz0_)
        (try simp at hc0_ hf0_)
        have : w.heap.size < w0_.heap.size := by omega
        have : w3.heap.size < w0_.heap.size := by omega
        have : w4.heap.size < w0_.heap.size := by omega
        simp only [DepsR, Region.binds, Nat.zero_add, Nat.reduceAdd, true_implies, Bool.false_eq_true, false_implies, and_true, true_and, BEq.rfl, reduceCtorEq] at hd_
        go_simp
        exact hK_.out _ _ _ (by first | rfl | simp only [Act.put, List.setIfInBounds_toArray, List.set_cons_zero, List.set_cons_succ, hd_]) (Below.refl _ _) rfl
      · intro w0_ hF_ hd_ Q_ K_ hK_
        have hc0_ := (bcell hF_).1
        have hf0_ := (bcell hF_).2
        have hz0_ := hF_.size; (try simp at hz0_)
        (try simp at hc0_ hf0_)
        have : w.heap.size < w0_.heap.size := by omega
        have : w3.heap.size < w0_.heap.size := by omega
        have : w4.heap.size < w0_.heap.size := by omega
        simp only [DepsR, Region.binds, Nat.zero_add, Nat.reduceAdd, true_implies, Bool.false_eq_true, false_implies, and_true, true_and, BEq.rfl, reduceCtorEq] at hd_
        go_simp
        exact hK_.out _ _ _ (by first | rfl | simp only [Act.put, List.setIfInBounds_toArray, List.set_cons_zero, List.set_cons_succ, hd_]) (Below.refl _ _) rfl
      · intro w0_ hF_ hd_ Q_ K_ hK_
        have hc0_ := (bcell hF_).1
        have hf0_ := (bcell hF_).2
        have hz0_ := hF_.size; (try simp at hz0_)
        (try simp at hc0_ hf0_)
        have : w.heap.size < w0_.heap.size := by omega
        have : w3.heap.size < w0_.heap.size := by omega
        have : w4.heap.size < w0_.heap.size := by omega
        simp only [DepsR, Region.binds, Nat.zero_add, Nat.reduceAdd, true_implies, Bool.false_eq_true, false_implies, and_true, true_and, BEq.rfl, reduceCtorEq] at hd_
        go_simp
        exact hK_.out _ _ _ (by first | rfl | simp only [Act.put, List.setIfInBounds_toArray, List.set_cons_zero, List.set_cons_succ, hd_]) (Below.refl _ _) rfl
      · intro w0_ hF_ hd_ Q_ K_ hK_
        have hc0_ := (bcell hF_).1
        have hf0_ := (bcell hF_).2
        have hz0_ := hF_.size; (try simp at hz0_)
        (try simp at hc0_ hf0_)
        have : w.heap.size < w0_.heap.size := by omega
        have : w3.heap.size < w0_.heap.size := by omega
        have : w4.heap.size < w0_.heap.size := by omega
        simp only [DepsR, Region.binds, Nat.zero_add, Nat.reduceAdd, true_implies, Bool.false_eq_true, false_implies, and_true, true_and, BEq.rfl, reduceCtorEq] at hd_
        go_simp
        exact hK_.out _ _ _ (by first | rfl | simp only [Act.put, List.setIfInBounds_toArray, List.set_cons_zero, List.set_cons_succ, hd_]) (Below.refl _ _) rfl
      · intro w0_ hF_ hd_ Q_ K_ hK_
        have hc0_ := (bcell hF_).1
        have hf0_ := (bcell hF_).2
        have hz0_ := hF_.size; (try simp at hz0_)
        (try simp at hc0_ hf0_)
        have : w.heap.size < w0_.heap.size := by omega
        have : w3.heap.size < w0_.heap.size := by omega
        have : w4.heap.size < w0_.heap.size := by omega
        simp only [DepsR, Region.binds, Nat.zero_add, Nat.reduceAdd, true_implies, Bool.false_eq_true, false_implies, and_true, true_and, BEq.rfl, reduceCtorEq] at hd_
        go_simp
        exact hK_.out _ _ _ (by first | rfl | simp only [Act.put, List.setIfInBounds_toArray, List.set_cons_zero, List.set_cons_succ, hd_]) (Below.refl _ _) rfl
      · intro w0_ hF_ hd_ Q_ K_ hK_
        have hc0_ := (bcell hF_).1
        have hf0_ := (bcell hF_).2
        have hz0_ := hF_.size; (try simp at hz0_)
        (try simp at hc0_ hf0_)
        have : w.heap.size < w0_.heap.size := by omega
        have : w3.heap.size < w0_.heap.size := by omega
        have : w4.heap.size < w0_.heap.size := by omega
        simp only [DepsR, Region.binds, Nat.zero_add, Nat.reduceAdd, true_implies, Bool.false_eq_true, false_implies, and_true, true_and, BEq.rfl, reduceCtorEq] at hd_
        go_simp
        exact hK_.out _ _ _ (by first | rfl | simp only [Act.put, List.setIfInBounds_toArray, List.set_cons_zero, List.set_cons_succ, hd_]) (Below.refl _ _) rfl
      · intro w0_ hF_ hd_ Q_ K_ hK_
        have hc0_ := (bcell hF_).1
        have hf0_ := (bcell hF_).2
        have hz0_ := hF_.size; (try simp at hz0_)
        (try simp at hc0_ hf0_)
        have : w.heap.size < w0_.heap.size := by omega
        have : w3.heap.size < w0_.heap.size := by omega
        have : w4.heap.size < w0_.heap.size := by omega
        simp only [DepsR, Region.binds, Nat.zero_add, Nat.reduceAdd, true_implies, Bool.false_eq_true, false_implies, and_true, true_and, BEq.rfl, reduceCtorEq] at hd_
        go_simp
        exact hK_.out _ _ _ (by first | rfl | simp only [Act.put, List.setIfInBounds_toArray, List.set_cons_zero, List.set_cons_succ, hd_]) (Below.refl _ _) rfl
      · intro w0_ hF_ hd_ Q_ K_ hK_
        have hc0_ := (bcell hF_).1
        have hf0_ := (bcell hF_).2
        have hz0_ := hF_.size; (try simp at hz0_)
        (try simp at hc0_ hf0_)
        have : w.heap.size < w0_.heap.size := by omega
        have : w3.heap.size < w0_.heap.size := by omega
        have : w4.heap.size < w0_.heap.size := by omega
        simp only [DepsR, Region.binds, Nat.zero_add, Nat.reduceAdd, true_implies, Bool.false_eq_true, false_implies, and_true, true_and, BEq.rfl, reduceCtorEq] at hd_
        go_simp
        exact hK_.out _ _ _ (by first | rfl | simp only [Act.put, List.setIfInBounds_toArray, List.set_cons_zero, List.set_cons_succ, hd_]) (Below.refl _ _) rfl
      · intro w0_ hF_ hd_ Q_ K_ hK_
        have hc0_ := (bcell hF_).1
        have hf0_ := (bcell hF_).2
        have hz0_ := hF_.size; (try simp at hz0_)
        (try simp at hc0_ hf0_)
        have : w.heap.size < w0_.heap.size := by omega
        have : w3.heap.size < w0_.heap.size := by omega
        have : w4.heap.size < w0_.heap.size := by omega
        simp only [DepsR, Region.binds, Nat.zero_add, Nat.reduceAdd, true_implies, Bool.false_eq_true, false_implies, and_true, true_and, BEq.rfl, reduceCtorEq] at hd_
        go_simp
        exact hK_.out _ _ _ (by first | rfl | simp only [Act.put, List.setIfInBounds_toArray, List.set_cons_zero, List.set_cons_succ, hd_]) (Below.refl _ _) rfl
      · intro w0_ hF_ hd_ Q_ K_ hK_
        have hc0_ := (bcell hF_).1
        have hf0_ := (bcell hF_).2
        have hz0_ := hF_.size; (try simp at hz0_)
        (try simp at hc0_ hf0_)
        have : w.heap.size < w0_.heap.size := by omega
        have : w3.heap.size < w0_.heap.size := by omega
        have : w4.heap.size < w0_.heap.size := by omega
        simp only [DepsR, Region.binds, Nat.zero_add, Nat.reduceAdd, true_implies, Bool.false_eq_true, false_implies, and_true, true_and, BEq.rfl, reduceCtorEq] at hd_
        go_simp
        exact hK_.out _ _ _ (by first | rfl | simp only [Act.put, List.setIfInBounds_toArray, List.set_cons_zero, List.set_cons_succ, hd_]) (Below.refl _ _) rfl
      · intro w0_ hF_ hd_ Q_ K_ hK_
        have hc0_ := (bcell hF_).1
        have hf0_ := (bcell hF_).2
        have hz0_ := hF_.size; (try simp at hz0_)
        (try simp at hc0_ hf0_)
        have : w.heap.size < w0_.heap.size := by omega
        have : w3.heap.size < w0_.heap.size := by omega
        have : w4.heap.size < w0_.heap.size := by omega
        simp only [DepsR, Region.binds, Nat.zero_add, Nat.reduceAdd, true_implies, Bool.false_eq_true, false_implies, and_true, true_and, BEq.rfl, reduceCtorEq] at hd_
        go_simp
        exact hK_.out _ _ _ (by first | rfl | simp only [Act.put, List.setIfInBounds_toArray, List.set_cons_zero, List.set_cons_succ, hd_]) (Below.refl _ _) rfl
    · intro vs w6 hBw6 hA_
      simp only [AllR, Nat.zero_add, Nat.reduceAdd, and_true] at hA_
      obtain ⟨r0_, r1_, r2_, r3_, r4_, r5_, r6_, r7_, r8_, r9_, r10_, r11_, r12_, r13_, r14_, r15_, r16_, r17_, r18_, r19_, r20_, r21_, r22_, r23_, r24_, r25_, r26_, r27_, r28_⟩ := hA_
      simp only [putAll, Act.put, List.setIfInBounds_toArray, List.set_cons_zero, List.set_cons_succ, Nat.zero_add, Nat.reduceAdd, r0_, r1_, r2_, r3_, r4_, r5_, r6_, r7_, r8_, r9_, r10_, r11_, r12_, r13_, r14_, r15_, r16_, r17_, r18_, r19_, r20_, r21_, r22_, r23_, r24_, r25_, r26_, r27_, r28_]
      clear r0_ r1_ r2_ r3_ r4_ r5_ r6_ r7_ r8_ r9_ r10_ r11_ r12_ r13_ r14_ r15_ r16_ r17_ r18_ r19_ r20_ r21_ r22_ r23_ r24_ r25_ r26_ r27_ r28_
      obtain ⟨hcw6, hfw6⟩ := bcell hBw6; (try simp only [World.size_drew, World.cell?_drew, World.frozen?_drew] at hcw6 hfw6); have hzw6 := hBw6.size; (try simp at hzw6)
      have : w.heap.size < w6.heap.size := by omega
      have : w3.heap.size < w6.heap.size := by omega
      have : w4.heap.size < w6.heap.size := by omega
      have hn := Hn.out
      clear S2 e1 e2 e3
      go_wp2_with fail
      clear hn
      refine (C9.out _).mono ?_; rintro ew7 w7 ⟨rfl, hbw7⟩; obtain ⟨hcw7, hfw7⟩ := bcell hbw7; (try simp only [World.size_drew, World.cell?_drew, World.frozen?_drew] at hcw7 hfw7); have hzw7 := hbw7.size; (try simp at hzw7); have : w.heap.size < w7.heap.size := (by omega); have : w3.heap.size < w7.heap.size := (by omega); have : w4.heap.size < w7.heap.size := (by omega); (try dsimp only)
      go_wp2_with fail
      refine wp_region_keep (t := fun j => j) (loud := fun _ => false)
        (R := fun j v u w' => match j with
          | 0 => v = ZV nd
          | 1 => v = ZV 1000000
          | 2 => v = .int .i64 (-1)
          | 3 => v = .bool true
          | 4 => v = .bool true
          | 5 => v = ZV nd
          | 6 => v = .agg #[.bool false, .int .u64 0, .int .u64 0]
          | 7 => v = .int .i64 1
          | 8 => v = .bool true
          | 9 => v = .bool true
          | 10 => v = .bool true
          | _ => True) (by kernel_rfl) (by kernel_rfl) ?_ ?_ ?_
      · intro j v u w1_ w2_ h_ hF_ hB_
        (try dsimp only at h_ ⊢)
        split at h_ <;> first | exact h_ | exact NewR.on h_ hB_ | exact HasR.on h_ hB_ | trivial
      · intro vs
        simp only [putAll, Act.put, List.setIfInBounds_toArray, List.set_cons_zero, List.set_cons_succ, Nat.zero_add, Nat.reduceAdd]
        refine ⟨?_, ?_, ?_, ?_, ?_, ?_, ?_, ?_, ?_, ?_, ?_, trivial⟩
        · intro w0_ hF_ hd_ Q_ K_ hK_
          have hc0_ := (bcell hF_).1
          have hf0_ := (bcell hF_).2
          have hz0_ := hF_.size; (try simp at hz0_)
          (try simp at hc0_ hf0_)
          have : w.heap.size < w0_.heap.size := by omega
          have : w3.heap.size < w0_.heap.size := by omega
          have : w4.heap.size < w0_.heap.size := by omega
          simp only [DepsR, Region.binds, Nat.zero_add, Nat.reduceAdd, true_implies, Bool.false_eq_true, false_implies, and_true, true_and, BEq.rfl, reduceCtorEq] at hd_
          go_simp
          exact hK_.out _ _ _ (by first | rfl | simp only [Act.put, List.setIfInBounds_toArray, List.set_cons_zero, List.set_cons_succ, hd_]) (Below.refl _ _) rfl
        · intro w0_ hF_ hd_ Q_ K_ hK_
          have hc0_ := (bcell hF_).1
          have hf0_ := (bcell hF_).2
          have hz0_ := hF_.size; (try simp at hz0_)
          (try simp at hc0_ hf0_)
          have : w.heap.size < w0_.heap.size := by omega
          have : w3.heap.size < w0_.heap.size := by omega
          have : w4.heap.size < w0_.heap.size := by omega
          simp only [DepsR, Region.binds, Nat.zero_add, Nat.reduceAdd, true_implies, Bool.false_eq_true, false_implies, and_true, true_and, BEq.rfl, reduceCtorEq] at hd_
          go_simp
          refine (C4.out _).mono ?_
          rintro e_ w1_ ⟨rfl, hb_⟩
          exact hK_.out _ _ _ (by first | rfl | simp only [Act.put, List.setIfInBounds_toArray, List.set_cons_zero, List.set_cons_succ, hd_]) hb_ rfl
        · intro w0_ hF_ hd_ Q_ K_ hK_
          have hc0_ := (bcell hF_).1
          have hf0_ := (bcell hF_).2
          have hz0_ := hF_.size; (try simp at hz0_)
          (try simp at hc0_ hf0_)
          have : w.heap.size < w0_.heap.size := by omega
          have : w3.heap.size < w0_.heap.size := by omega
          have : w4.heap.size < w0_.heap.size := by omega
          simp only [DepsR, Region.binds, Nat.zero_add, Nat.reduceAdd, true_implies, Bool.false_eq_true, false_implies, and_true, true_and, BEq.rfl, reduceCtorEq] at hd_
          go_simp
          refine (C7.out _).mono ?_
          rintro e_ w1_ ⟨rfl, hb_⟩
          exact hK_.out _ _ _ (by first | rfl | simp only [Act.put, List.setIfInBounds_toArray, List.set_cons_zero, List.set_cons_succ, hd_]) hb_ rfl
        · intro w0_ hF_ hd_ Q_ K_ hK_
          have hc0_ := (bcell hF_).1
          have hf0_ := (bcell hF_).2
          have hz0_ := hF_.size; (try simp at hz0_)
          (try simp at hc0_ hf0_)
          have : w.heap.size < w0_.heap.size := by omega
          have : w3.heap.size < w0_.heap.size := by omega
          have : w4.heap.size < w0_.heap.size := by omega
          simp only [DepsR, Region.binds, Nat.zero_add, Nat.reduceAdd, true_implies, Bool.false_eq_true, false_implies, and_true, true_and, BEq.rfl, reduceCtorEq] at hd_
          go_simp
          exact hK_.out _ _ _ (by first | rfl | simp only [Act.put, List.setIfInBounds_toArray, List.set_cons_zero, List.set_cons_succ, hd_]) (Below.refl _ _) rfl
        · intro w0_ hF_ hd_ Q_ K_ hK_
          have hc0_ := (bcell hF_).1
          have hf0_ := (bcell hF_).2
          have hz0_ := hF_.size; (try simp at hz0_)
          (try simp at hc0_ hf0_)
          have : w.heap.size < w0_.heap.size := by omega
          have : w3.heap.size < w0_.heap.size := by omega
          have : w4.heap.size < w0_.heap.size := by omega
          simp only [DepsR, Region.binds, Nat.zero_add, Nat.reduceAdd, true_implies, Bool.false_eq_true, false_implies, and_true, true_and, BEq.rfl, reduceCtorEq] at hd_
          go_simp
          exact hK_.out _ _ _ (by first | rfl | simp only [Act.put, List.setIfInBounds_toArray, List.set_cons_zero, List.set_cons_succ, hd_]) (Below.refl _ _) rfl
        · intro w0_ hF_ hd_ Q_ K_ hK_
          have hc0_ := (bcell hF_).1
          have hf0_ := (bcell hF_).2
          have hz0_ := hF_.size; (try simp at hz0_)
          (try simp at hc0_ hf0_)
          have : w.heap.size < w0_.heap.size := by omega
          have : w3.heap.size < w0_.heap.size := by omega
          have : w4.heap.size < w0_.heap.size := by omega
          simp only [DepsR, Region.binds, Nat.zero_add, Nat.reduceAdd, true_implies, Bool.false_eq_true, false_implies, and_true, true_and, BEq.rfl, reduceCtorEq] at hd_
          go_simp
          exact hK_.out _ _ _ (by first | rfl | simp only [Act.put, List.setIfInBounds_toArray, List.set_cons_zero, List.set_cons_succ, hd_]) (Below.refl _ _) rfl
        · intro w0_ hF_ hd_ Q_ K_ hK_
          have hc0_ := (bcell hF_).1
          have hf0_ := (bcell hF_).2
          have hz0_ := hF_.size; (try simp at hz0_)
          (try simp at hc0_ hf0_)
          have : w.heap.size < w0_.heap.size := by omega
          have : w3.heap.size < w0_.heap.size := by omega
          have : w4.heap.size < w0_.heap.size := by omega
          simp only [DepsR, Region.binds, Nat.zero_add, Nat.reduceAdd, true_implies, Bool.false_eq_true, false_implies, and_true, true_and, BEq.rfl, reduceCtorEq] at hd_
          go_simp
          exact hK_.out _ _ _ (by first | rfl | simp only [Act.put, List.setIfInBounds_toArray, List.set_cons_zero, List.set_cons_succ, hd_]) (Below.refl _ _) rfl
        · intro w0_ hF_ hd_ Q_ K_ hK_
          have hc0_ := (bcell hF_).1
          have hf0_ := (bcell hF_).2
          have hz0_ := hF_.size; (try simp at hz0_)
          (try simp at hc0_ hf0_)
          have : w.heap.size < w0_.heap.size := by omega
          have : w3.heap.size < w0_.heap.size := by omega
          have : w4.heap.size < w0_.heap.size := by omega
          simp only [DepsR, Region.binds, Nat.zero_add, Nat.reduceAdd, true_implies, Bool.false_eq_true, false_implies, and_true, true_and, BEq.rfl, reduceCtorEq] at hd_
          go_simp
          refine (C8.out _).mono ?_
          rintro e_ w1_ ⟨rfl, hb_⟩
          exact hK_.out _ _ _ (by first | rfl | simp only [Act.put, List.setIfInBounds_toArray, List.set_cons_zero, List.set_cons_succ, hd_]) hb_ rfl
        · intro w0_ hF_ hd_ Q_ K_ hK_
          have hc0_ := (bcell hF_).1
          have hf0_ := (bcell hF_).2
          have hz0_ := hF_.size; (try simp at hz0_)
          (try simp at hc0_ hf0_)
          have : w.heap.size < w0_.heap.size := by omega
          have : w3.heap.size < w0_.heap.size := by omega
          have : w4.heap.size < w0_.heap.size := by omega
          simp only [DepsR, Region.binds, Nat.zero_add, Nat.reduceAdd, true_implies, Bool.false_eq_true, false_implies, and_true, true_and, BEq.rfl, reduceCtorEq] at hd_
          go_simp
          exact hK_.out _ _ _ (by first | rfl | simp only [Act.put, List.setIfInBounds_toArray, List.set_cons_zero, List.set_cons_succ, hd_]) (Below.refl _ _) rfl
        · intro w0_ hF_ hd_ Q_ K_ hK_
          have hc0_ := (bcell hF_).1
          have hf0_ := (bcell hF_).2
          have hz0_ := hF_.size; (try simp at hz0_)
          (try simp at hc0_ hf0_)
          have : w.heap.size < w0_.heap.size := by omega
          have : w3.heap.size < w0_.heap.size := by omega
          have : w4.heap.size < w0_.heap.size := by omega
          simp only [DepsR, Region.binds, Nat.zero_add, Nat.reduceAdd, true_implies, Bool.false_eq_true, false_implies, and_true, true_and, BEq.rfl, reduceCtorEq] at hd_
          go_simp
          exact hK_.out _ _ _ (by first | rfl | simp only [Act.put, List.setIfInBounds_toArray, List.set_cons_zero, List.set_cons_succ, hd_]) (Below.refl _ _) rfl
        · intro w0_ hF_ hd_ Q_ K_ hK_
          have hc0_ := (bcell hF_).1
          have hf0_ := (bcell hF_).2
          have hz0_ := hF_.size; (try simp at hz0_)
          (try simp at hc0_ hf0_)
          have : w.heap.size < w0_.heap.size := by omega
          have : w3.heap.size < w0_.heap.size := by omega
          have : w4.heap.size < w0_.heap.size := by omega
          simp only [DepsR, Region.binds, Nat.zero_add, Nat.reduceAdd, true_implies, Bool.false_eq_true, false_implies, and_true, true_and, BEq.rfl, reduceCtorEq] at hd_
          go_simp
          exact hK_.out _ _ _ (by first | rfl | simp only [Act.put, List.setIfInBounds_toArray, List.set_cons_zero, List.set_cons_succ, hd_]) (Below.refl _ _) rfl
      · intro vs w8 hBw8 hA_
        simp only [AllR, Nat.zero_add, Nat.reduceAdd, and_true] at hA_
        obtain ⟨r0_, r1_, r2_, r3_, r4_, r5_, r6_, r7_, r8_, r9_, r10_⟩ := hA_
        simp only [putAll, Act.put, List.setIfInBounds_toArray, List.set_cons_zero, List.set_cons_succ, Nat.zero_add, Nat.reduceAdd, r0_, r1_, r2_, r3_, r4_, r5_, r6_, r7_, r8_, r9_, r10_]
        clear r0_ r1_ r2_ r3_ r4_ r5_ r6_ r7_ r8_ r9_ r10_
        obtain ⟨hcw8, hfw8⟩ := bcell hBw8; (try simp only [World.size_drew, World.cell?_drew, World.frozen?_drew] at hcw8 hfw8); have hzw8 := hBw8.size; (try simp at hzw8)
        have : w.heap.size < w8.heap.size := by omega
        have : w3.heap.size < w8.heap.size := by omega
        have : w4.heap.size < w8.heap.size := by omega
        go_wp2
        go_ret
        refine ⟨rfl, ?_⟩
        repeat (first | (with_reducible exact Below.refl _ _) | (with_reducible refine Below.drew ?_) | (refine Below.setCell ?_ (by first | exact Nat.le_refl _ | (simp; done) | (simp; omega) | omega) _) | (refine Below.alloc ?_ (by first | exact Nat.le_refl _ | (simp; done) | (simp; omega) | omega) _) | (refine Below.trans ?_ (Below.mono (by assumption) (by first | exact Nat.le_refl _ | (simp; done) | (simp; omega) | omega))))
end Go.Proofs.Ytanfgolelhmdhaa
