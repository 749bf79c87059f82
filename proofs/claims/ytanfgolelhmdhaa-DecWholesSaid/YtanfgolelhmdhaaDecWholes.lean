/- The walk of the statement DecWholes. -/
import Derived.Test.YtanfgolelhmdhaaRefK
import Derived.Test.YtanfgolelhmdhaaDecX
import Derived.Test.YtanfgolelhmdhaaDecUnitsB
import Derived.Test.YtanfgolelhmdhaaDecTruncsM
import Derived.Test.YtanfgolelhmdhaaDecSumsA
namespace Go.Proofs.Ytanfgolelhmdhaa
set_option linter.unusedSimpArgs false
set_option linter.unusedVariables false
set_option linter.unnecessarySimpa false
open Go.RowKit

theorem whole_int_w {n : Int} (h : i64B n) : ∀ w, Calls Try.prog 33 #[ZV (n * 1000000)] w fun e w' => e = .returned (.tuple #[.int .i64 n, .bool true]) ∧ Below w.heap.size w w' := by
  intro w
  have k := whole_m (negZ (n * 1000000)) (n * 1000000).natAbs (by rw [goodB_z, decide_eq_true_eq]; exact int_lt h) w
  have e1 : (n * 1000000).natAbs / 1000000 = n.natAbs := by rw [Int.natAbs_mul]; show n.natAbs * 1000000 / 1000000 = _; omega
  have e2 : negZ (n * 1000000) = negZ n := by unfold negZ; rw [decide_eq_decide]; omega
  have b : whB (negZ n) n.natAbs = true := by
    unfold i64B at h; unfold whB negZ
    by_cases hn : n < 0 <;> simp [hn] <;> omega
  have v : whV (negZ n) n.natAbs = n := by
    unfold whV; rw [b]; unfold negZ
    by_cases hn : n < 0 <;> simp [hn] <;> omega
  rw [e1, e2, b, v] at k
  rw [show ZV (n * 1000000) = MV (negZ n) (n * 1000000).natAbs from MV_eq e2 rfl]
  exact k
theorem trunc_int {n : Int} : truncZ (n * 1000000) = n * 1000000 := by unfold truncZ; rw [Int.mul_tdiv_cancel _ (by decide)]

set_option maxRecDepth 100000 in
set_option maxHeartbeats 8000000 in
theorem wholes_ok (x n : Int) (hx : x.natAbs < topN) (hn : i64B n) (w : World) :
    Calls Try.prog 6 #[ZV x, .int .i64 n] w fun e w' => e = .returned (.bool true) ∧ Below w.heap.size w w' := by
  have C0 := Lib.hid awake_t
  have I1 := Lib.hid (int_z n hn)
  have W1 := Lib.hid (whole_int_w hn)
  have G1 := Lib.hid (good_z' (int_lt hn))
  have T1 : Hid (∀ w, Calls Try.prog 34 #[ZV (n * 1000000)] w fun e w' => e = .returned (ZV (n * 1000000)) ∧ Below w.heap.size w w') := by
    intro w; have k := trunc_z (n * 1000000) (int_lt hn) w; rw [trunc_int] at k; exact k
  have s1 : (negZ (n * 1000000) == decide (n < 0)) = true := by rw [← int_sgn]; simp
  have m1 : x.natAbs < 340282366920938463463374607431768211456 := by rw [topN_eq] at hx; omega
  have W2 : Hid (∀ w, Calls Try.prog 33 #[ZV x] w fun e w' => e = .returned (.tuple #[.int .i64 (whV (negZ x) (x.natAbs / 1000000)), .bool (whB (negZ x) (x.natAbs / 1000000))]) ∧ Below w.heap.size w w') :=
    whole_m (negZ x) x.natAbs (by rw [goodB_z, decide_eq_true_eq]; exact hx)
  have RG1 : Hid (∀ w, Calls Try.prog 16 #[ZV x] w fun e w' => e = .returned (.bool true) ∧ Below w.heap.size w w') := by
    intro w; have k := rgood_any (negZ x) x.natAbs m1 w; rw [goodB_z, decide_eq_true hx] at k; exact k
  have O1 : Hid (∀ w, Calls Try.prog 19 #[ZV x] w (RetNum (negZ x) x.natAbs w)) := of_any (negZ x) x.natAbs m1
  have RW : Hid (∀ W v, IsNum W v (negZ x) x.natAbs → Calls Try.prog 36 #[v] W (fun e w' => e = .returned (.tuple #[.int .i64 (whV (negZ x) (x.natAbs / 1000000)), .bool (whB (negZ x) (x.natAbs / 1000000))]) ∧ Below W.heap.size W w')) :=
    fun W v h => rwhole_any h (top_len hx)
  have T2 := Lib.hid (trunc_z x hx)
  have O2 : Hid (∀ w, Calls Try.prog 19 #[ZV (truncZ x)] w (RetNum (negZ (truncZ x)) (truncZ x).natAbs w)) := of_any _ _ (by have := trunc_top hx; rw [topN_eq] at this; omega)
  have RT : Hid (∀ W v, IsNum W v (negZ x) x.natAbs → Calls Try.prog 38 #[v] W (RetNum (negZ (truncZ x)) (truncZ x).natAbs W)) := fun W v h => rtrunc_any h (top200 hx)
  have S1 : Hid (∀ W v v', IsNum W v (negZ (truncZ x)) (truncZ x).natAbs → IsNum W v' (negZ (truncZ x)) (truncZ x).natAbs → Calls Try.prog 37 #[v, v'] W (fun e w' => e = .returned (.bool true) ∧ Below W.heap.size W w')) :=
    fun W v v' h h' => IsNum.same W h h' (trunc_top hx)
  have N1 := Lib.hid (neg_z x hx)
  have hny : (-x).natAbs < topN := by rw [Int.natAbs_neg]; exact hx
  have O3 : Hid (∀ w, Calls Try.prog 19 #[ZV (-x)] w (RetNum (negZ (-x)) (-x).natAbs w)) := of_any _ _ (by rw [topN_eq] at hny; omega)
  have RN : Hid (∀ W v, IsNum W v (negZ x) x.natAbs → Calls Try.prog 21 #[v] W (RetNum (negZ (-x)) (-x).natAbs W)) := fun W v h => rneg_any h (top_len hx)
  have S2 : Hid (∀ W v v', IsNum W v (negZ (-x)) (-x).natAbs → IsNum W v' (negZ (-x)) (-x).natAbs → Calls Try.prog 37 #[v, v'] W (fun e w' => e = .returned (.bool true) ∧ Below W.heap.size W w')) :=
    fun W v v' h h' => IsNum.same W h h' hny
  clear hx hn hny m1
  generalize whV (negZ x) (x.natAbs / 1000000) = wv at *
  generalize whB (negZ x) (x.natAbs / 1000000) = wb at *
  generalize -x = nx at *
  generalize truncZ x = t at *
  generalize n * 1000000 = nm at *
  have q1 : eqM (negZ nm) nm.natAbs (negZ nm) nm.natAbs = true := by rw [eqM_z]; simp
  have e1 := neq_mm (negZ nm) (negZ nm) nm.natAbs nm.natAbs
  rw [q1] at e1
  clear q1
  go_enter Try.func6, Try.ntmps6
  go_wp2_with fail; refine (C0.out _).mono ?_; rintro ew1 w1 ⟨rfl, hbw1⟩; obtain ⟨hcw1, hfw1⟩ := bcell hbw1; (try simp only [World.size_drew, World.cell?_drew, World.frozen?_drew] at hcw1 hfw1); have hzw1 := hbw1.size; (try simp at hzw1); have : w.heap.size < w1.heap.size := (by omega); (try dsimp only)
  go_wp2_with fail; refine (I1.out _).mono ?_; rintro ew2 w2 ⟨rfl, hbw2⟩; obtain ⟨hcw2, hfw2⟩ := bcell hbw2; (try simp only [World.size_drew, World.cell?_drew, World.frozen?_drew] at hcw2 hfw2); have hzw2 := hbw2.size; (try simp at hzw2); have : w.heap.size < w2.heap.size := (by omega); (try dsimp only)
  go_wp2_with fail; refine (W1.out _).mono ?_; rintro ew3 w3 ⟨rfl, hbw3⟩; obtain ⟨hcw3, hfw3⟩ := bcell hbw3; (try simp only [World.size_drew, World.cell?_drew, World.frozen?_drew] at hcw3 hfw3); have hzw3 := hbw3.size; (try simp at hzw3); have : w.heap.size < w3.heap.size := (by omega); have : w2.heap.size < w3.heap.size := (by omega); (try dsimp only)
  go_wp2_with fail
  refine wp_region_keep (t := fun j => j) (al := fun _ => false) (loud := fun _ => false)
    (R := fun j v u w' => match j with
      | 0 => v = ZV nm
      | 1 => v = .bool true
      | 2 => v = .bool false
      | 3 => v = .bool false
      | 4 => v = .int .i64 n
      | 5 => v = .int .i64 n
      | 6 => v = .bool false
      | 7 => v = .bool false
      | 8 => v = .bool false
      | 9 => v = .bool true
      | 10 => v = .bool false
      | 11 => v = .bool false
      | 12 => v = .bool false
      | 13 => v = .pointer (some ⟨w2.heap.size, 0, none⟩)
      | 14 => v = .bool (negZ nm)
      | 15 => v = .int .i64 n
      | 16 => v = .bool (decide (n < 0))
      | 17 => v = .bool false
      | 18 => v = .bool false
      | 19 => v = .bool false
      | 20 => v = ZV nm
      | 21 => v = ZV nm
      | 22 => v = ZV nm
      | 23 => v = .bool false
      | 24 => v = .bool false
      | _ => True) (by kernel_rfl) (by kernel_rfl) (by kernel_rfl) ?_ ?_ ?_ ?_
  · intro j v u w1_ w2_ h_ hF_ hB_
    (try dsimp only at h_ ⊢)
    split at h_ <;> first | exact h_ | exact NewR.on h_ hB_ | exact HasR.on h_ hB_ | exact IsNum.on h_ hB_ | exact HasNum.on h_ hB_ | exact RHeld.on h_ hB_ | trivial
  · intro j v u w1_ h1_ h_
    cases h1_
  · intro vs
    simp only [putAll, Act.put, List.setIfInBounds_toArray, List.set_cons_zero, List.set_cons_succ, Nat.zero_add, Nat.reduceAdd]
    refine ⟨?_, ?_, ?_, ?_, ?_, ?_, ?_, ?_, ?_, ?_, ?_, ?_, ?_, ?_, ?_, ?_, ?_, ?_, ?_, ?_, ?_, ?_, ?_, ?_, ?_, trivial⟩
    · intro w0_ hF_ hd_ Q_ K_ hK_
      have hc0_ := (bcell hF_).1
      have hf0_ := (bcell hF_).2
      have hz0_ := hF_.size; (try simp at hz0_)
      (try simp at hc0_ hf0_)
      have : w.heap.size < w0_.heap.size := by omega
      have : w2.heap.size < w0_.heap.size := by omega
      simp only [DepsR, Region.binds, Nat.zero_add, Nat.reduceAdd, true_implies, Bool.false_eq_true, false_implies, and_true, true_and, BEq.rfl, reduceCtorEq] at hd_
      go_simp
      exact hK_.out _ _ _ (by first | rfl | (simp only [Act.put, List.setIfInBounds_toArray, List.set_cons_zero, List.set_cons_succ, hd_]; done) | (simp only [Act.put, List.setIfInBounds_toArray, List.set_cons_zero, List.set_cons_succ, hd_]; rfl)) (Below.refl _ _) rfl (fun h => by cases h)
    · intro w0_ hF_ hd_ Q_ K_ hK_
      have hc0_ := (bcell hF_).1
      have hf0_ := (bcell hF_).2
      have hz0_ := hF_.size; (try simp at hz0_)
      (try simp at hc0_ hf0_)
      have : w.heap.size < w0_.heap.size := by omega
      have : w2.heap.size < w0_.heap.size := by omega
      simp only [DepsR, Region.binds, Nat.zero_add, Nat.reduceAdd, true_implies, Bool.false_eq_true, false_implies, and_true, true_and, BEq.rfl, reduceCtorEq] at hd_
      go_simp
      refine (G1.out _).mono ?_
      rintro e_ w1_ ⟨rfl, hb_⟩
      exact hK_.out _ _ _ (by first | rfl | (simp only [Act.put, List.setIfInBounds_toArray, List.set_cons_zero, List.set_cons_succ, hd_]; done) | (simp only [Act.put, List.setIfInBounds_toArray, List.set_cons_zero, List.set_cons_succ, hd_]; rfl)) hb_ rfl (fun h => by cases h)
    · intro w0_ hF_ hd_ Q_ K_ hK_
      have hc0_ := (bcell hF_).1
      have hf0_ := (bcell hF_).2
      have hz0_ := hF_.size; (try simp at hz0_)
      (try simp at hc0_ hf0_)
      have : w.heap.size < w0_.heap.size := by omega
      have : w2.heap.size < w0_.heap.size := by omega
      simp only [DepsR, Region.binds, Nat.zero_add, Nat.reduceAdd, true_implies, Bool.false_eq_true, false_implies, and_true, true_and, BEq.rfl, reduceCtorEq] at hd_
      go_simp
      exact hK_.out _ _ _ (by first | rfl | (simp only [Act.put, List.setIfInBounds_toArray, List.set_cons_zero, List.set_cons_succ, hd_]; done) | (simp only [Act.put, List.setIfInBounds_toArray, List.set_cons_zero, List.set_cons_succ, hd_]; rfl)) (Below.refl _ _) rfl (fun h => by cases h)
    · intro w0_ hF_ hd_ Q_ K_ hK_
      have hc0_ := (bcell hF_).1
      have hf0_ := (bcell hF_).2
      have hz0_ := hF_.size; (try simp at hz0_)
      (try simp at hc0_ hf0_)
      have : w.heap.size < w0_.heap.size := by omega
      have : w2.heap.size < w0_.heap.size := by omega
      simp only [DepsR, Region.binds, Nat.zero_add, Nat.reduceAdd, true_implies, Bool.false_eq_true, false_implies, and_true, true_and, BEq.rfl, reduceCtorEq] at hd_
      go_simp
      exact hK_.out _ _ _ (by first | rfl | (simp only [Act.put, List.setIfInBounds_toArray, List.set_cons_zero, List.set_cons_succ, hd_]; done) | (simp only [Act.put, List.setIfInBounds_toArray, List.set_cons_zero, List.set_cons_succ, hd_]; rfl)) (Below.refl _ _) rfl (fun h => by cases h)
    · intro w0_ hF_ hd_ Q_ K_ hK_
      have hc0_ := (bcell hF_).1
      have hf0_ := (bcell hF_).2
      have hz0_ := hF_.size; (try simp at hz0_)
      (try simp at hc0_ hf0_)
      have : w.heap.size < w0_.heap.size := by omega
      have : w2.heap.size < w0_.heap.size := by omega
      simp only [DepsR, Region.binds, Nat.zero_add, Nat.reduceAdd, true_implies, Bool.false_eq_true, false_implies, and_true, true_and, BEq.rfl, reduceCtorEq] at hd_
      go_simp
      exact hK_.out _ _ _ (by first | rfl | (simp only [Act.put, List.setIfInBounds_toArray, List.set_cons_zero, List.set_cons_succ, hd_]; done) | (simp only [Act.put, List.setIfInBounds_toArray, List.set_cons_zero, List.set_cons_succ, hd_]; rfl)) (Below.refl _ _) rfl (fun h => by cases h)
    · intro w0_ hF_ hd_ Q_ K_ hK_
      have hc0_ := (bcell hF_).1
      have hf0_ := (bcell hF_).2
      have hz0_ := hF_.size; (try simp at hz0_)
      (try simp at hc0_ hf0_)
      have : w.heap.size < w0_.heap.size := by omega
      have : w2.heap.size < w0_.heap.size := by omega
      simp only [DepsR, Region.binds, Nat.zero_add, Nat.reduceAdd, true_implies, Bool.false_eq_true, false_implies, and_true, true_and, BEq.rfl, reduceCtorEq] at hd_
      go_simp
      exact hK_.out _ _ _ (by first | rfl | (simp only [Act.put, List.setIfInBounds_toArray, List.set_cons_zero, List.set_cons_succ, hd_]; done) | (simp only [Act.put, List.setIfInBounds_toArray, List.set_cons_zero, List.set_cons_succ, hd_]; rfl)) (Below.refl _ _) rfl (fun h => by cases h)
    · intro w0_ hF_ hd_ Q_ K_ hK_
      have hc0_ := (bcell hF_).1
      have hf0_ := (bcell hF_).2
      have hz0_ := hF_.size; (try simp at hz0_)
      (try simp at hc0_ hf0_)
      have : w.heap.size < w0_.heap.size := by omega
      have : w2.heap.size < w0_.heap.size := by omega
      simp only [DepsR, Region.binds, Nat.zero_add, Nat.reduceAdd, true_implies, Bool.false_eq_true, false_implies, and_true, true_and, BEq.rfl, reduceCtorEq] at hd_
      go_simp
      exact hK_.out _ _ _ (by first | rfl | (simp only [Act.put, List.setIfInBounds_toArray, List.set_cons_zero, List.set_cons_succ, hd_]; done) | (simp only [Act.put, List.setIfInBounds_toArray, List.set_cons_zero, List.set_cons_succ, hd_]; rfl)) (Below.refl _ _) rfl (fun h => by cases h)
    · intro w0_ hF_ hd_ Q_ K_ hK_
      have hc0_ := (bcell hF_).1
      have hf0_ := (bcell hF_).2
      have hz0_ := hF_.size; (try simp at hz0_)
      (try simp at hc0_ hf0_)
      have : w.heap.size < w0_.heap.size := by omega
      have : w2.heap.size < w0_.heap.size := by omega
      simp only [DepsR, Region.binds, Nat.zero_add, Nat.reduceAdd, true_implies, Bool.false_eq_true, false_implies, and_true, true_and, BEq.rfl, reduceCtorEq] at hd_
      go_simp
      exact hK_.out _ _ _ (by first | rfl | (simp only [Act.put, List.setIfInBounds_toArray, List.set_cons_zero, List.set_cons_succ, hd_]; done) | (simp only [Act.put, List.setIfInBounds_toArray, List.set_cons_zero, List.set_cons_succ, hd_]; rfl)) (Below.refl _ _) rfl (fun h => by cases h)
    · intro w0_ hF_ hd_ Q_ K_ hK_
      have hc0_ := (bcell hF_).1
      have hf0_ := (bcell hF_).2
      have hz0_ := hF_.size; (try simp at hz0_)
      (try simp at hc0_ hf0_)
      have : w.heap.size < w0_.heap.size := by omega
      have : w2.heap.size < w0_.heap.size := by omega
      simp only [DepsR, Region.binds, Nat.zero_add, Nat.reduceAdd, true_implies, Bool.false_eq_true, false_implies, and_true, true_and, BEq.rfl, reduceCtorEq] at hd_
      go_simp
      exact hK_.out _ _ _ (by first | rfl | (simp only [Act.put, List.setIfInBounds_toArray, List.set_cons_zero, List.set_cons_succ, hd_]; done) | (simp only [Act.put, List.setIfInBounds_toArray, List.set_cons_zero, List.set_cons_succ, hd_]; rfl)) (Below.refl _ _) rfl (fun h => by cases h)
    · intro w0_ hF_ hd_ Q_ K_ hK_
      have hc0_ := (bcell hF_).1
      have hf0_ := (bcell hF_).2
      have hz0_ := hF_.size; (try simp at hz0_)
      (try simp at hc0_ hf0_)
      have : w.heap.size < w0_.heap.size := by omega
      have : w2.heap.size < w0_.heap.size := by omega
      simp only [DepsR, Region.binds, Nat.zero_add, Nat.reduceAdd, true_implies, Bool.false_eq_true, false_implies, and_true, true_and, BEq.rfl, reduceCtorEq] at hd_
      go_simp
      exact hK_.out _ _ _ (by first | rfl | (simp only [Act.put, List.setIfInBounds_toArray, List.set_cons_zero, List.set_cons_succ, hd_]; done) | (simp only [Act.put, List.setIfInBounds_toArray, List.set_cons_zero, List.set_cons_succ, hd_]; rfl)) (Below.refl _ _) rfl (fun h => by cases h)
    · intro w0_ hF_ hd_ Q_ K_ hK_
      have hc0_ := (bcell hF_).1
      have hf0_ := (bcell hF_).2
      have hz0_ := hF_.size; (try simp at hz0_)
      (try simp at hc0_ hf0_)
      have : w.heap.size < w0_.heap.size := by omega
      have : w2.heap.size < w0_.heap.size := by omega
      simp only [DepsR, Region.binds, Nat.zero_add, Nat.reduceAdd, true_implies, Bool.false_eq_true, false_implies, and_true, true_and, BEq.rfl, reduceCtorEq] at hd_
      go_simp
      exact hK_.out _ _ _ (by first | rfl | (simp only [Act.put, List.setIfInBounds_toArray, List.set_cons_zero, List.set_cons_succ, hd_]; done) | (simp only [Act.put, List.setIfInBounds_toArray, List.set_cons_zero, List.set_cons_succ, hd_]; rfl)) (Below.refl _ _) rfl (fun h => by cases h)
    · intro w0_ hF_ hd_ Q_ K_ hK_
      have hc0_ := (bcell hF_).1
      have hf0_ := (bcell hF_).2
      have hz0_ := hF_.size; (try simp at hz0_)
      (try simp at hc0_ hf0_)
      have : w.heap.size < w0_.heap.size := by omega
      have : w2.heap.size < w0_.heap.size := by omega
      simp only [DepsR, Region.binds, Nat.zero_add, Nat.reduceAdd, true_implies, Bool.false_eq_true, false_implies, and_true, true_and, BEq.rfl, reduceCtorEq] at hd_
      go_simp
      exact hK_.out _ _ _ (by first | rfl | (simp only [Act.put, List.setIfInBounds_toArray, List.set_cons_zero, List.set_cons_succ, hd_]; done) | (simp only [Act.put, List.setIfInBounds_toArray, List.set_cons_zero, List.set_cons_succ, hd_]; rfl)) (Below.refl _ _) rfl (fun h => by cases h)
    · intro w0_ hF_ hd_ Q_ K_ hK_
      have hc0_ := (bcell hF_).1
      have hf0_ := (bcell hF_).2
      have hz0_ := hF_.size; (try simp at hz0_)
      (try simp at hc0_ hf0_)
      have : w.heap.size < w0_.heap.size := by omega
      have : w2.heap.size < w0_.heap.size := by omega
      simp only [DepsR, Region.binds, Nat.zero_add, Nat.reduceAdd, true_implies, Bool.false_eq_true, false_implies, and_true, true_and, BEq.rfl, reduceCtorEq] at hd_
      go_simp
      exact hK_.out _ _ _ (by first | rfl | (simp only [Act.put, List.setIfInBounds_toArray, List.set_cons_zero, List.set_cons_succ, hd_]; done) | (simp only [Act.put, List.setIfInBounds_toArray, List.set_cons_zero, List.set_cons_succ, hd_]; rfl)) (Below.refl _ _) rfl (fun h => by cases h)
    · intro w0_ hF_ hd_ Q_ K_ hK_
      have hc0_ := (bcell hF_).1
      have hf0_ := (bcell hF_).2
      have hz0_ := hF_.size; (try simp at hz0_)
      (try simp at hc0_ hf0_)
      have : w.heap.size < w0_.heap.size := by omega
      have : w2.heap.size < w0_.heap.size := by omega
      simp only [DepsR, Region.binds, Nat.zero_add, Nat.reduceAdd, true_implies, Bool.false_eq_true, false_implies, and_true, true_and, BEq.rfl, reduceCtorEq] at hd_
      go_simp
      exact hK_.out _ _ _ (by first | rfl | (simp only [Act.put, List.setIfInBounds_toArray, List.set_cons_zero, List.set_cons_succ, hd_]; done) | (simp only [Act.put, List.setIfInBounds_toArray, List.set_cons_zero, List.set_cons_succ, hd_]; rfl)) (Below.refl _ _) rfl (fun h => by cases h)
    · intro w0_ hF_ hd_ Q_ K_ hK_
      have hc0_ := (bcell hF_).1
      have hf0_ := (bcell hF_).2
      have hz0_ := hF_.size; (try simp at hz0_)
      (try simp at hc0_ hf0_)
      have : w.heap.size < w0_.heap.size := by omega
      have : w2.heap.size < w0_.heap.size := by omega
      simp only [DepsR, Region.binds, Nat.zero_add, Nat.reduceAdd, true_implies, Bool.false_eq_true, false_implies, and_true, true_and, BEq.rfl, reduceCtorEq] at hd_
      go_simp
      exact hK_.out _ _ _ (by first | rfl | (simp only [Act.put, List.setIfInBounds_toArray, List.set_cons_zero, List.set_cons_succ, hd_]; done) | (simp only [Act.put, List.setIfInBounds_toArray, List.set_cons_zero, List.set_cons_succ, hd_]; rfl)) (Below.refl _ _) rfl (fun h => by cases h)
    · intro w0_ hF_ hd_ Q_ K_ hK_
      have hc0_ := (bcell hF_).1
      have hf0_ := (bcell hF_).2
      have hz0_ := hF_.size; (try simp at hz0_)
      (try simp at hc0_ hf0_)
      have : w.heap.size < w0_.heap.size := by omega
      have : w2.heap.size < w0_.heap.size := by omega
      simp only [DepsR, Region.binds, Nat.zero_add, Nat.reduceAdd, true_implies, Bool.false_eq_true, false_implies, and_true, true_and, BEq.rfl, reduceCtorEq] at hd_
      go_simp
      exact hK_.out _ _ _ (by first | rfl | (simp only [Act.put, List.setIfInBounds_toArray, List.set_cons_zero, List.set_cons_succ, hd_]; done) | (simp only [Act.put, List.setIfInBounds_toArray, List.set_cons_zero, List.set_cons_succ, hd_]; rfl)) (Below.refl _ _) rfl (fun h => by cases h)
    · intro w0_ hF_ hd_ Q_ K_ hK_
      have hc0_ := (bcell hF_).1
      have hf0_ := (bcell hF_).2
      have hz0_ := hF_.size; (try simp at hz0_)
      (try simp at hc0_ hf0_)
      have : w.heap.size < w0_.heap.size := by omega
      have : w2.heap.size < w0_.heap.size := by omega
      simp only [DepsR, Region.binds, Nat.zero_add, Nat.reduceAdd, true_implies, Bool.false_eq_true, false_implies, and_true, true_and, BEq.rfl, reduceCtorEq] at hd_
      go_simp
      exact hK_.out _ _ _ (by first | rfl | (simp only [Act.put, List.setIfInBounds_toArray, List.set_cons_zero, List.set_cons_succ, hd_]; done) | (simp only [Act.put, List.setIfInBounds_toArray, List.set_cons_zero, List.set_cons_succ, hd_]; rfl)) (Below.refl _ _) rfl (fun h => by cases h)
    · intro w0_ hF_ hd_ Q_ K_ hK_
      have hc0_ := (bcell hF_).1
      have hf0_ := (bcell hF_).2
      have hz0_ := hF_.size; (try simp at hz0_)
      (try simp at hc0_ hf0_)
      have : w.heap.size < w0_.heap.size := by omega
      have : w2.heap.size < w0_.heap.size := by omega
      simp only [DepsR, Region.binds, Nat.zero_add, Nat.reduceAdd, true_implies, Bool.false_eq_true, false_implies, and_true, true_and, BEq.rfl, reduceCtorEq] at hd_
      go_simp
      exact hK_.out _ _ _ (by first | rfl | (simp only [Act.put, List.setIfInBounds_toArray, List.set_cons_zero, List.set_cons_succ, hd_]; done) | (simp only [Act.put, List.setIfInBounds_toArray, List.set_cons_zero, List.set_cons_succ, hd_]; rfl)) (Below.refl _ _) rfl (fun h => by cases h)
    · intro w0_ hF_ hd_ Q_ K_ hK_
      have hc0_ := (bcell hF_).1
      have hf0_ := (bcell hF_).2
      have hz0_ := hF_.size; (try simp at hz0_)
      (try simp at hc0_ hf0_)
      have : w.heap.size < w0_.heap.size := by omega
      have : w2.heap.size < w0_.heap.size := by omega
      simp only [DepsR, Region.binds, Nat.zero_add, Nat.reduceAdd, true_implies, Bool.false_eq_true, false_implies, and_true, true_and, BEq.rfl, reduceCtorEq] at hd_
      go_simp
      exact hK_.out _ _ _ (by first | rfl | (simp only [Act.put, List.setIfInBounds_toArray, List.set_cons_zero, List.set_cons_succ, hd_]; done) | (simp only [Act.put, List.setIfInBounds_toArray, List.set_cons_zero, List.set_cons_succ, hd_]; rfl)) (Below.refl _ _) rfl (fun h => by cases h)
    · intro w0_ hF_ hd_ Q_ K_ hK_
      have hc0_ := (bcell hF_).1
      have hf0_ := (bcell hF_).2
      have hz0_ := hF_.size; (try simp at hz0_)
      (try simp at hc0_ hf0_)
      have : w.heap.size < w0_.heap.size := by omega
      have : w2.heap.size < w0_.heap.size := by omega
      simp only [DepsR, Region.binds, Nat.zero_add, Nat.reduceAdd, true_implies, Bool.false_eq_true, false_implies, and_true, true_and, BEq.rfl, reduceCtorEq] at hd_
      go_simp
      exact hK_.out _ _ _ (by first | rfl | (simp only [Act.put, List.setIfInBounds_toArray, List.set_cons_zero, List.set_cons_succ, hd_]; done) | (simp only [Act.put, List.setIfInBounds_toArray, List.set_cons_zero, List.set_cons_succ, hd_]; rfl)) (Below.refl _ _) rfl (fun h => by cases h)
    · intro w0_ hF_ hd_ Q_ K_ hK_
      have hc0_ := (bcell hF_).1
      have hf0_ := (bcell hF_).2
      have hz0_ := hF_.size; (try simp at hz0_)
      (try simp at hc0_ hf0_)
      have : w.heap.size < w0_.heap.size := by omega
      have : w2.heap.size < w0_.heap.size := by omega
      simp only [DepsR, Region.binds, Nat.zero_add, Nat.reduceAdd, true_implies, Bool.false_eq_true, false_implies, and_true, true_and, BEq.rfl, reduceCtorEq] at hd_
      go_simp
      exact hK_.out _ _ _ (by first | rfl | (simp only [Act.put, List.setIfInBounds_toArray, List.set_cons_zero, List.set_cons_succ, hd_]; done) | (simp only [Act.put, List.setIfInBounds_toArray, List.set_cons_zero, List.set_cons_succ, hd_]; rfl)) (Below.refl _ _) rfl (fun h => by cases h)
    · intro w0_ hF_ hd_ Q_ K_ hK_
      have hc0_ := (bcell hF_).1
      have hf0_ := (bcell hF_).2
      have hz0_ := hF_.size; (try simp at hz0_)
      (try simp at hc0_ hf0_)
      have : w.heap.size < w0_.heap.size := by omega
      have : w2.heap.size < w0_.heap.size := by omega
      simp only [DepsR, Region.binds, Nat.zero_add, Nat.reduceAdd, true_implies, Bool.false_eq_true, false_implies, and_true, true_and, BEq.rfl, reduceCtorEq] at hd_
      go_simp
      refine (T1.out _).mono ?_
      rintro e_ w1_ ⟨rfl, hb_⟩
      exact hK_.out _ _ _ (by first | rfl | (simp only [Act.put, List.setIfInBounds_toArray, List.set_cons_zero, List.set_cons_succ, hd_]; done) | (simp only [Act.put, List.setIfInBounds_toArray, List.set_cons_zero, List.set_cons_succ, hd_]; rfl)) hb_ rfl (fun h => by cases h)
    · intro w0_ hF_ hd_ Q_ K_ hK_
      have hc0_ := (bcell hF_).1
      have hf0_ := (bcell hF_).2
      have hz0_ := hF_.size; (try simp at hz0_)
      (try simp at hc0_ hf0_)
      have : w.heap.size < w0_.heap.size := by omega
      have : w2.heap.size < w0_.heap.size := by omega
      simp only [DepsR, Region.binds, Nat.zero_add, Nat.reduceAdd, true_implies, Bool.false_eq_true, false_implies, and_true, true_and, BEq.rfl, reduceCtorEq] at hd_
      go_simp
      exact hK_.out _ _ _ (by first | rfl | (simp only [Act.put, List.setIfInBounds_toArray, List.set_cons_zero, List.set_cons_succ, hd_]; done) | (simp only [Act.put, List.setIfInBounds_toArray, List.set_cons_zero, List.set_cons_succ, hd_]; rfl)) (Below.refl _ _) rfl (fun h => by cases h)
    · intro w0_ hF_ hd_ Q_ K_ hK_
      have hc0_ := (bcell hF_).1
      have hf0_ := (bcell hF_).2
      have hz0_ := hF_.size; (try simp at hz0_)
      (try simp at hc0_ hf0_)
      have : w.heap.size < w0_.heap.size := by omega
      have : w2.heap.size < w0_.heap.size := by omega
      simp only [DepsR, Region.binds, Nat.zero_add, Nat.reduceAdd, true_implies, Bool.false_eq_true, false_implies, and_true, true_and, BEq.rfl, reduceCtorEq] at hd_
      go_simp
      exact hK_.out _ _ _ (by first | rfl | (simp only [Act.put, List.setIfInBounds_toArray, List.set_cons_zero, List.set_cons_succ, hd_]; done) | (simp only [Act.put, List.setIfInBounds_toArray, List.set_cons_zero, List.set_cons_succ, hd_]; rfl)) (Below.refl _ _) rfl (fun h => by cases h)
    · intro w0_ hF_ hd_ Q_ K_ hK_
      have hc0_ := (bcell hF_).1
      have hf0_ := (bcell hF_).2
      have hz0_ := hF_.size; (try simp at hz0_)
      (try simp at hc0_ hf0_)
      have : w.heap.size < w0_.heap.size := by omega
      have : w2.heap.size < w0_.heap.size := by omega
      simp only [DepsR, Region.binds, Nat.zero_add, Nat.reduceAdd, true_implies, Bool.false_eq_true, false_implies, and_true, true_and, BEq.rfl, reduceCtorEq] at hd_
      go_simp
      exact hK_.out _ _ _ (by first | rfl | (simp only [Act.put, List.setIfInBounds_toArray, List.set_cons_zero, List.set_cons_succ, hd_]; done) | (simp only [Act.put, List.setIfInBounds_toArray, List.set_cons_zero, List.set_cons_succ, hd_]; rfl)) (Below.refl _ _) rfl (fun h => by cases h)
  · intro vs w4 hBw4 hA_ hD_
    simp only [AllR, Nat.zero_add, Nat.reduceAdd, and_true] at hA_
    obtain ⟨r0_, r1_, r2_, r3_, r4_, r5_, r6_, r7_, r8_, r9_, r10_, r11_, r12_, r13_, r14_, r15_, r16_, r17_, r18_, r19_, r20_, r21_, r22_, r23_, r24_⟩ := hA_
    clear hD_
    simp only [putAll, Act.put, List.setIfInBounds_toArray, List.set_cons_zero, List.set_cons_succ, Nat.zero_add, Nat.reduceAdd, r0_, r1_, r2_, r3_, r4_, r5_, r6_, r7_, r8_, r9_, r10_, r11_, r12_, r13_, r14_, r15_, r16_, r17_, r18_, r19_, r20_, r21_, r22_, r23_, r24_]
    clear r0_ r1_ r2_ r3_ r4_ r5_ r6_ r7_ r8_ r9_ r10_ r11_ r12_ r13_ r14_ r15_ r16_ r17_ r18_ r19_ r20_ r21_ r22_ r23_ r24_
    obtain ⟨hcw4, hfw4⟩ := bcell hBw4; (try simp only [World.size_drew, World.cell?_drew, World.frozen?_drew] at hcw4 hfw4); have hzw4 := hBw4.size; (try simp at hzw4)
    have : w.heap.size < w4.heap.size := by omega
    have : w2.heap.size < w4.heap.size := by omega
    clear e1 s1
    go_wp2_with fail; refine (W2.out _).mono ?_; rintro ew5 w5 ⟨rfl, hbw5⟩; obtain ⟨hcw5, hfw5⟩ := bcell hbw5; (try simp only [World.size_drew, World.cell?_drew, World.frozen?_drew] at hcw5 hfw5); have hzw5 := hbw5.size; (try simp at hzw5); have : w.heap.size < w5.heap.size := (by omega); have : w2.heap.size < w5.heap.size := (by omega); (try dsimp only)
    go_wp2_with fail; refine (RG1.out _).mono ?_; rintro ew6 w6 ⟨rfl, hbw6⟩; obtain ⟨hcw6, hfw6⟩ := bcell hbw6; (try simp only [World.size_drew, World.cell?_drew, World.frozen?_drew] at hcw6 hfw6); have hzw6 := hbw6.size; (try simp at hzw6); have : w.heap.size < w6.heap.size := (by omega); have : w2.heap.size < w6.heap.size := (by omega); (try dsimp only)
    go_wp2_with fail
    refine (O1.out _).mono ?_
    rintro e7 w7 ⟨v7, rfl, ⟨A7, c7, rfl, hI7⟩, hbw7⟩
    obtain ⟨hcw7, hfw7⟩ := bcell hbw7
    have hzw7 := hbw7.size; (try simp at hzw7)
    have HI7 := Lib.hid hI7; clear hI7
    have : w.heap.size < w7.heap.size := by omega
    go_wp2_with fail
    have hB7 : ∀ o : Obj, Below w7.heap.size w7 (w7.alloc o) := fun o => (Below.refl _ _).alloc (Nat.le_refl _) o
    refine (RW.out _ _ ⟨A7, c7, rfl, HI7.out.on (hB7 _)⟩).mono ?_
    rintro e8 w8 ⟨rfl, hbw8⟩
    obtain ⟨hcw8, hfw8⟩ := bcell hbw8
    have hzw8 := hbw8.size; (try simp at hzw8)
    have : w.heap.size < w8.heap.size := by omega
    have : w7.heap.size < w8.heap.size := by omega
    have hB8 : Below w7.heap.size w7 w8 := below_on (hB7 _) hbw8
    go_wp2_with fail
    refine wp_region_keep (t := fun j => j) (al := fun _ => false) (loud := fun _ => false)
      (R := fun j v u w' => match j with
        | 0 => v = .int .i64 wv
        | 1 => v = .int .i64 wv
        | 2 => v = .bool true
        | 3 => v = .bool true
        | 4 => v = .bool wb
        | 5 => v = .bool wb
        | 6 => v = .bool true
        | 7 => v = .bool true
        | 8 => v = .bool true
        | 9 => v = ZV x
        | 10 => v = ZV t
        | 11 => IsNum w' v (negZ t) t.natAbs
        | 12 => v = .agg #[.bool (negZ x), .slice A7 (dig x.natAbs).length c7]
        | 13 => IsNum w' v (negZ t) t.natAbs
        | 14 => v = .bool true
        | 15 => v = .bool true
        | 16 => v = .bool true
        | 17 => v = ZV x
        | 18 => v = ZV nx
        | 19 => IsNum w' v (negZ nx) nx.natAbs
        | 20 => v = .agg #[.bool (negZ x), .slice A7 (dig x.natAbs).length c7]
        | 21 => IsNum w' v (negZ nx) nx.natAbs
        | 22 => v = .bool true
        | 23 => v = .bool true
        | 24 => v = .bool true
        | _ => True) (by kernel_rfl) (by kernel_rfl) (by kernel_rfl) ?_ ?_ ?_ ?_
    · intro j v u w1_ w2_ h_ hF_ hB_
      (try dsimp only at h_ ⊢)
      split at h_ <;> first | exact h_ | exact NewR.on h_ hB_ | exact HasR.on h_ hB_ | exact IsNum.on h_ hB_ | exact HasNum.on h_ hB_ | exact RHeld.on h_ hB_ | trivial
    · intro j v u w1_ h1_ h_
      cases h1_
    · intro vs
      simp only [putAll, Act.put, List.setIfInBounds_toArray, List.set_cons_zero, List.set_cons_succ, Nat.zero_add, Nat.reduceAdd]
      refine ⟨?_, ?_, ?_, ?_, ?_, ?_, ?_, ?_, ?_, ?_, ?_, ?_, ?_, ?_, ?_, ?_, ?_, ?_, ?_, ?_, ?_, ?_, ?_, ?_, ?_, trivial⟩
      · intro w0_ hF_ hd_ Q_ K_ hK_
        have hc0_ := (bcell hF_).1
        have hf0_ := (bcell hF_).2
        have hz0_ := hF_.size; (try simp at hz0_)
        (try simp at hc0_ hf0_)
        have : w.heap.size < w0_.heap.size := by omega
        have : w7.heap.size < w0_.heap.size := by omega
        simp only [DepsR, Region.binds, Nat.zero_add, Nat.reduceAdd, true_implies, Bool.false_eq_true, false_implies, and_true, true_and, BEq.rfl, reduceCtorEq] at hd_
        go_simp
        exact hK_.out _ _ _ (by first | rfl | (simp only [Act.put, List.setIfInBounds_toArray, List.set_cons_zero, List.set_cons_succ, hd_]; done) | (simp only [Act.put, List.setIfInBounds_toArray, List.set_cons_zero, List.set_cons_succ, hd_]; rfl)) (Below.refl _ _) rfl (fun h => by cases h)
      · intro w0_ hF_ hd_ Q_ K_ hK_
        have hc0_ := (bcell hF_).1
        have hf0_ := (bcell hF_).2
        have hz0_ := hF_.size; (try simp at hz0_)
        (try simp at hc0_ hf0_)
        have : w.heap.size < w0_.heap.size := by omega
        have : w7.heap.size < w0_.heap.size := by omega
        simp only [DepsR, Region.binds, Nat.zero_add, Nat.reduceAdd, true_implies, Bool.false_eq_true, false_implies, and_true, true_and, BEq.rfl, reduceCtorEq] at hd_
        go_simp
        exact hK_.out _ _ _ (by first | rfl | (simp only [Act.put, List.setIfInBounds_toArray, List.set_cons_zero, List.set_cons_succ, hd_]; done) | (simp only [Act.put, List.setIfInBounds_toArray, List.set_cons_zero, List.set_cons_succ, hd_]; rfl)) (Below.refl _ _) rfl (fun h => by cases h)
      · intro w0_ hF_ hd_ Q_ K_ hK_
        have hc0_ := (bcell hF_).1
        have hf0_ := (bcell hF_).2
        have hz0_ := hF_.size; (try simp at hz0_)
        (try simp at hc0_ hf0_)
        have : w.heap.size < w0_.heap.size := by omega
        have : w7.heap.size < w0_.heap.size := by omega
        simp only [DepsR, Region.binds, Nat.zero_add, Nat.reduceAdd, true_implies, Bool.false_eq_true, false_implies, and_true, true_and, BEq.rfl, reduceCtorEq] at hd_
        go_simp
        exact hK_.out _ _ _ (by first | rfl | (simp only [Act.put, List.setIfInBounds_toArray, List.set_cons_zero, List.set_cons_succ, hd_]; done) | (simp only [Act.put, List.setIfInBounds_toArray, List.set_cons_zero, List.set_cons_succ, hd_]; rfl)) (Below.refl _ _) rfl (fun h => by cases h)
      · intro w0_ hF_ hd_ Q_ K_ hK_
        have hc0_ := (bcell hF_).1
        have hf0_ := (bcell hF_).2
        have hz0_ := hF_.size; (try simp at hz0_)
        (try simp at hc0_ hf0_)
        have : w.heap.size < w0_.heap.size := by omega
        have : w7.heap.size < w0_.heap.size := by omega
        simp only [DepsR, Region.binds, Nat.zero_add, Nat.reduceAdd, true_implies, Bool.false_eq_true, false_implies, and_true, true_and, BEq.rfl, reduceCtorEq] at hd_
        go_simp
        exact hK_.out _ _ _ (by first | rfl | (simp only [Act.put, List.setIfInBounds_toArray, List.set_cons_zero, List.set_cons_succ, hd_]; done) | (simp only [Act.put, List.setIfInBounds_toArray, List.set_cons_zero, List.set_cons_succ, hd_]; rfl)) (Below.refl _ _) rfl (fun h => by cases h)
      · intro w0_ hF_ hd_ Q_ K_ hK_
        have hc0_ := (bcell hF_).1
        have hf0_ := (bcell hF_).2
        have hz0_ := hF_.size; (try simp at hz0_)
        (try simp at hc0_ hf0_)
        have : w.heap.size < w0_.heap.size := by omega
        have : w7.heap.size < w0_.heap.size := by omega
        simp only [DepsR, Region.binds, Nat.zero_add, Nat.reduceAdd, true_implies, Bool.false_eq_true, false_implies, and_true, true_and, BEq.rfl, reduceCtorEq] at hd_
        go_simp
        exact hK_.out _ _ _ (by first | rfl | (simp only [Act.put, List.setIfInBounds_toArray, List.set_cons_zero, List.set_cons_succ, hd_]; done) | (simp only [Act.put, List.setIfInBounds_toArray, List.set_cons_zero, List.set_cons_succ, hd_]; rfl)) (Below.refl _ _) rfl (fun h => by cases h)
      · intro w0_ hF_ hd_ Q_ K_ hK_
        have hc0_ := (bcell hF_).1
        have hf0_ := (bcell hF_).2
        have hz0_ := hF_.size; (try simp at hz0_)
        (try simp at hc0_ hf0_)
        have : w.heap.size < w0_.heap.size := by omega
        have : w7.heap.size < w0_.heap.size := by omega
        simp only [DepsR, Region.binds, Nat.zero_add, Nat.reduceAdd, true_implies, Bool.false_eq_true, false_implies, and_true, true_and, BEq.rfl, reduceCtorEq] at hd_
        go_simp
        exact hK_.out _ _ _ (by first | rfl | (simp only [Act.put, List.setIfInBounds_toArray, List.set_cons_zero, List.set_cons_succ, hd_]; done) | (simp only [Act.put, List.setIfInBounds_toArray, List.set_cons_zero, List.set_cons_succ, hd_]; rfl)) (Below.refl _ _) rfl (fun h => by cases h)
      · intro w0_ hF_ hd_ Q_ K_ hK_
        have hc0_ := (bcell hF_).1
        have hf0_ := (bcell hF_).2
        have hz0_ := hF_.size; (try simp at hz0_)
        (try simp at hc0_ hf0_)
        have : w.heap.size < w0_.heap.size := by omega
        have : w7.heap.size < w0_.heap.size := by omega
        simp only [DepsR, Region.binds, Nat.zero_add, Nat.reduceAdd, true_implies, Bool.false_eq_true, false_implies, and_true, true_and, BEq.rfl, reduceCtorEq] at hd_
        go_simp
        exact hK_.out _ _ _ (by first | rfl | (simp only [Act.put, List.setIfInBounds_toArray, List.set_cons_zero, List.set_cons_succ, hd_]; done) | (simp only [Act.put, List.setIfInBounds_toArray, List.set_cons_zero, List.set_cons_succ, hd_]; rfl)) (Below.refl _ _) rfl (fun h => by cases h)
      · intro w0_ hF_ hd_ Q_ K_ hK_
        have hc0_ := (bcell hF_).1
        have hf0_ := (bcell hF_).2
        have hz0_ := hF_.size; (try simp at hz0_)
        (try simp at hc0_ hf0_)
        have : w.heap.size < w0_.heap.size := by omega
        have : w7.heap.size < w0_.heap.size := by omega
        simp only [DepsR, Region.binds, Nat.zero_add, Nat.reduceAdd, true_implies, Bool.false_eq_true, false_implies, and_true, true_and, BEq.rfl, reduceCtorEq] at hd_
        go_simp
        exact hK_.out _ _ _ (by first | rfl | (simp only [Act.put, List.setIfInBounds_toArray, List.set_cons_zero, List.set_cons_succ, hd_]; done) | (simp only [Act.put, List.setIfInBounds_toArray, List.set_cons_zero, List.set_cons_succ, hd_]; rfl)) (Below.refl _ _) rfl (fun h => by cases h)
      · intro w0_ hF_ hd_ Q_ K_ hK_
        have hc0_ := (bcell hF_).1
        have hf0_ := (bcell hF_).2
        have hz0_ := hF_.size; (try simp at hz0_)
        (try simp at hc0_ hf0_)
        have : w.heap.size < w0_.heap.size := by omega
        have : w7.heap.size < w0_.heap.size := by omega
        simp only [DepsR, Region.binds, Nat.zero_add, Nat.reduceAdd, true_implies, Bool.false_eq_true, false_implies, and_true, true_and, BEq.rfl, reduceCtorEq] at hd_
        go_simp
        exact hK_.out _ _ _ (by first | rfl | (simp only [Act.put, List.setIfInBounds_toArray, List.set_cons_zero, List.set_cons_succ, hd_]; done) | (simp only [Act.put, List.setIfInBounds_toArray, List.set_cons_zero, List.set_cons_succ, hd_]; rfl)) (Below.refl _ _) rfl (fun h => by cases h)
      · intro w0_ hF_ hd_ Q_ K_ hK_
        have hc0_ := (bcell hF_).1
        have hf0_ := (bcell hF_).2
        have hz0_ := hF_.size; (try simp at hz0_)
        (try simp at hc0_ hf0_)
        have : w.heap.size < w0_.heap.size := by omega
        have : w7.heap.size < w0_.heap.size := by omega
        simp only [DepsR, Region.binds, Nat.zero_add, Nat.reduceAdd, true_implies, Bool.false_eq_true, false_implies, and_true, true_and, BEq.rfl, reduceCtorEq] at hd_
        go_simp
        exact hK_.out _ _ _ (by first | rfl | (simp only [Act.put, List.setIfInBounds_toArray, List.set_cons_zero, List.set_cons_succ, hd_]; done) | (simp only [Act.put, List.setIfInBounds_toArray, List.set_cons_zero, List.set_cons_succ, hd_]; rfl)) (Below.refl _ _) rfl (fun h => by cases h)
      · intro w0_ hF_ hd_ Q_ K_ hK_
        have hc0_ := (bcell hF_).1
        have hf0_ := (bcell hF_).2
        have hz0_ := hF_.size; (try simp at hz0_)
        (try simp at hc0_ hf0_)
        have : w.heap.size < w0_.heap.size := by omega
        have : w7.heap.size < w0_.heap.size := by omega
        simp only [DepsR, Region.binds, Nat.zero_add, Nat.reduceAdd, true_implies, Bool.false_eq_true, false_implies, and_true, true_and, BEq.rfl, reduceCtorEq] at hd_
        go_simp
        refine (T2.out _).mono ?_
        rintro e_ w1_ ⟨rfl, hb_⟩
        exact hK_.out _ _ _ (by first | rfl | (simp only [Act.put, List.setIfInBounds_toArray, List.set_cons_zero, List.set_cons_succ, hd_]; done) | (simp only [Act.put, List.setIfInBounds_toArray, List.set_cons_zero, List.set_cons_succ, hd_]; rfl)) hb_ rfl (fun h => by cases h)
      · intro w0_ hF_ hd_ Q_ K_ hK_
        have hc0_ := (bcell hF_).1
        have hf0_ := (bcell hF_).2
        have hz0_ := hF_.size; (try simp at hz0_)
        (try simp at hc0_ hf0_)
        have : w.heap.size < w0_.heap.size := by omega
        have : w7.heap.size < w0_.heap.size := by omega
        simp only [DepsR, Region.binds, Nat.zero_add, Nat.reduceAdd, true_implies, Bool.false_eq_true, false_implies, and_true, true_and, BEq.rfl, reduceCtorEq] at hd_
        go_simp
        refine (O2.out _).mono ?_
        rintro e_ w1_ ⟨v_, rfl, hr_, hb_⟩
        exact hK_.out _ _ _ (by first | rfl | (simp only [Act.put, List.setIfInBounds_toArray, List.set_cons_zero, List.set_cons_succ, hd_]; done) | (simp only [Act.put, List.setIfInBounds_toArray, List.set_cons_zero, List.set_cons_succ, hd_]; rfl)) hb_ hr_ (fun h => by cases h)
      · intro w0_ hF_ hd_ Q_ K_ hK_
        have hc0_ := (bcell hF_).1
        have hf0_ := (bcell hF_).2
        have hz0_ := hF_.size; (try simp at hz0_)
        (try simp at hc0_ hf0_)
        have : w.heap.size < w0_.heap.size := by omega
        have : w7.heap.size < w0_.heap.size := by omega
        simp only [DepsR, Region.binds, Nat.zero_add, Nat.reduceAdd, true_implies, Bool.false_eq_true, false_implies, and_true, true_and, BEq.rfl, reduceCtorEq] at hd_
        go_simp
        exact hK_.out _ _ _ (by first | rfl | (simp only [Act.put, List.setIfInBounds_toArray, List.set_cons_zero, List.set_cons_succ, hd_]; done) | (simp only [Act.put, List.setIfInBounds_toArray, List.set_cons_zero, List.set_cons_succ, hd_]; rfl)) (Below.refl _ _) rfl (fun h => by cases h)
      · intro w0_ hF_ hd_ Q_ K_ hK_
        have hc0_ := (bcell hF_).1
        have hf0_ := (bcell hF_).2
        have hz0_ := hF_.size; (try simp at hz0_)
        (try simp at hc0_ hf0_)
        have : w.heap.size < w0_.heap.size := by omega
        have : w7.heap.size < w0_.heap.size := by omega
        simp only [DepsR, Region.binds, Nat.zero_add, Nat.reduceAdd, true_implies, Bool.false_eq_true, false_implies, and_true, true_and, BEq.rfl, reduceCtorEq] at hd_
        go_simp
        refine (RT.out _ _ ⟨A7, c7, rfl, HI7.out.on (below_on hB8 hF_)⟩).mono ?_
        rintro e_ w1_ ⟨v_, rfl, hr_, hb_⟩
        exact hK_.out _ _ _ (by first | rfl | (simp only [Act.put, List.setIfInBounds_toArray, List.set_cons_zero, List.set_cons_succ, hd_]; done) | (simp only [Act.put, List.setIfInBounds_toArray, List.set_cons_zero, List.set_cons_succ, hd_]; rfl)) hb_ hr_ (fun h => by cases h)
      · intro w0_ hF_ hd_ Q_ K_ hK_
        have hc0_ := (bcell hF_).1
        have hf0_ := (bcell hF_).2
        have hz0_ := hF_.size; (try simp at hz0_)
        (try simp at hc0_ hf0_)
        have : w.heap.size < w0_.heap.size := by omega
        have : w7.heap.size < w0_.heap.size := by omega
        simp only [DepsR, Region.binds, Nat.zero_add, Nat.reduceAdd, true_implies, Bool.false_eq_true, false_implies, and_true, true_and, BEq.rfl, reduceCtorEq] at hd_
        go_simp
        refine (S1.out _ _ _ (by first | exact hd_.1 | exact hd_.2.1 | exact hd_.2.2.1) (by first | exact hd_.1 | exact hd_.2.1 | exact hd_.2.2.1)).mono ?_
        rintro e_ w1_ ⟨rfl, hb_⟩
        exact hK_.out _ _ _ (by first | rfl | (simp only [Act.put, List.setIfInBounds_toArray, List.set_cons_zero, List.set_cons_succ, hd_]; done) | (simp only [Act.put, List.setIfInBounds_toArray, List.set_cons_zero, List.set_cons_succ, hd_]; rfl)) hb_ rfl (fun h => by cases h)
      · intro w0_ hF_ hd_ Q_ K_ hK_
        have hc0_ := (bcell hF_).1
        have hf0_ := (bcell hF_).2
        have hz0_ := hF_.size; (try simp at hz0_)
        (try simp at hc0_ hf0_)
        have : w.heap.size < w0_.heap.size := by omega
        have : w7.heap.size < w0_.heap.size := by omega
        simp only [DepsR, Region.binds, Nat.zero_add, Nat.reduceAdd, true_implies, Bool.false_eq_true, false_implies, and_true, true_and, BEq.rfl, reduceCtorEq] at hd_
        go_simp
        exact hK_.out _ _ _ (by first | rfl | (simp only [Act.put, List.setIfInBounds_toArray, List.set_cons_zero, List.set_cons_succ, hd_]; done) | (simp only [Act.put, List.setIfInBounds_toArray, List.set_cons_zero, List.set_cons_succ, hd_]; rfl)) (Below.refl _ _) rfl (fun h => by cases h)
      · intro w0_ hF_ hd_ Q_ K_ hK_
        have hc0_ := (bcell hF_).1
        have hf0_ := (bcell hF_).2
        have hz0_ := hF_.size; (try simp at hz0_)
        (try simp at hc0_ hf0_)
        have : w.heap.size < w0_.heap.size := by omega
        have : w7.heap.size < w0_.heap.size := by omega
        simp only [DepsR, Region.binds, Nat.zero_add, Nat.reduceAdd, true_implies, Bool.false_eq_true, false_implies, and_true, true_and, BEq.rfl, reduceCtorEq] at hd_
        go_simp
        exact hK_.out _ _ _ (by first | rfl | (simp only [Act.put, List.setIfInBounds_toArray, List.set_cons_zero, List.set_cons_succ, hd_]; done) | (simp only [Act.put, List.setIfInBounds_toArray, List.set_cons_zero, List.set_cons_succ, hd_]; rfl)) (Below.refl _ _) rfl (fun h => by cases h)
      · intro w0_ hF_ hd_ Q_ K_ hK_
        have hc0_ := (bcell hF_).1
        have hf0_ := (bcell hF_).2
        have hz0_ := hF_.size; (try simp at hz0_)
        (try simp at hc0_ hf0_)
        have : w.heap.size < w0_.heap.size := by omega
        have : w7.heap.size < w0_.heap.size := by omega
        simp only [DepsR, Region.binds, Nat.zero_add, Nat.reduceAdd, true_implies, Bool.false_eq_true, false_implies, and_true, true_and, BEq.rfl, reduceCtorEq] at hd_
        go_simp
        exact hK_.out _ _ _ (by first | rfl | (simp only [Act.put, List.setIfInBounds_toArray, List.set_cons_zero, List.set_cons_succ, hd_]; done) | (simp only [Act.put, List.setIfInBounds_toArray, List.set_cons_zero, List.set_cons_succ, hd_]; rfl)) (Below.refl _ _) rfl (fun h => by cases h)
      · intro w0_ hF_ hd_ Q_ K_ hK_
        have hc0_ := (bcell hF_).1
        have hf0_ := (bcell hF_).2
        have hz0_ := hF_.size; (try simp at hz0_)
        (try simp at hc0_ hf0_)
        have : w.heap.size < w0_.heap.size := by omega
        have : w7.heap.size < w0_.heap.size := by omega
        simp only [DepsR, Region.binds, Nat.zero_add, Nat.reduceAdd, true_implies, Bool.false_eq_true, false_implies, and_true, true_and, BEq.rfl, reduceCtorEq] at hd_
        go_simp
        refine (N1.out _).mono ?_
        rintro e_ w1_ ⟨rfl, hb_⟩
        exact hK_.out _ _ _ (by first | rfl | (simp only [Act.put, List.setIfInBounds_toArray, List.set_cons_zero, List.set_cons_succ, hd_]; done) | (simp only [Act.put, List.setIfInBounds_toArray, List.set_cons_zero, List.set_cons_succ, hd_]; rfl)) hb_ rfl (fun h => by cases h)
      · intro w0_ hF_ hd_ Q_ K_ hK_
        have hc0_ := (bcell hF_).1
        have hf0_ := (bcell hF_).2
        have hz0_ := hF_.size; (try simp at hz0_)
        (try simp at hc0_ hf0_)
        have : w.heap.size < w0_.heap.size := by omega
        have : w7.heap.size < w0_.heap.size := by omega
        simp only [DepsR, Region.binds, Nat.zero_add, Nat.reduceAdd, true_implies, Bool.false_eq_true, false_implies, and_true, true_and, BEq.rfl, reduceCtorEq] at hd_
        go_simp
        refine (O3.out _).mono ?_
        rintro e_ w1_ ⟨v_, rfl, hr_, hb_⟩
        exact hK_.out _ _ _ (by first | rfl | (simp only [Act.put, List.setIfInBounds_toArray, List.set_cons_zero, List.set_cons_succ, hd_]; done) | (simp only [Act.put, List.setIfInBounds_toArray, List.set_cons_zero, List.set_cons_succ, hd_]; rfl)) hb_ hr_ (fun h => by cases h)
      · intro w0_ hF_ hd_ Q_ K_ hK_
        have hc0_ := (bcell hF_).1
        have hf0_ := (bcell hF_).2
        have hz0_ := hF_.size; (try simp at hz0_)
        (try simp at hc0_ hf0_)
        have : w.heap.size < w0_.heap.size := by omega
        have : w7.heap.size < w0_.heap.size := by omega
        simp only [DepsR, Region.binds, Nat.zero_add, Nat.reduceAdd, true_implies, Bool.false_eq_true, false_implies, and_true, true_and, BEq.rfl, reduceCtorEq] at hd_
        go_simp
        exact hK_.out _ _ _ (by first | rfl | (simp only [Act.put, List.setIfInBounds_toArray, List.set_cons_zero, List.set_cons_succ, hd_]; done) | (simp only [Act.put, List.setIfInBounds_toArray, List.set_cons_zero, List.set_cons_succ, hd_]; rfl)) (Below.refl _ _) rfl (fun h => by cases h)
      · intro w0_ hF_ hd_ Q_ K_ hK_
        have hc0_ := (bcell hF_).1
        have hf0_ := (bcell hF_).2
        have hz0_ := hF_.size; (try simp at hz0_)
        (try simp at hc0_ hf0_)
        have : w.heap.size < w0_.heap.size := by omega
        have : w7.heap.size < w0_.heap.size := by omega
        simp only [DepsR, Region.binds, Nat.zero_add, Nat.reduceAdd, true_implies, Bool.false_eq_true, false_implies, and_true, true_and, BEq.rfl, reduceCtorEq] at hd_
        go_simp
        refine (RN.out _ _ ⟨A7, c7, rfl, HI7.out.on (below_on hB8 hF_)⟩).mono ?_
        rintro e_ w1_ ⟨v_, rfl, hr_, hb_⟩
        exact hK_.out _ _ _ (by first | rfl | (simp only [Act.put, List.setIfInBounds_toArray, List.set_cons_zero, List.set_cons_succ, hd_]; done) | (simp only [Act.put, List.setIfInBounds_toArray, List.set_cons_zero, List.set_cons_succ, hd_]; rfl)) hb_ hr_ (fun h => by cases h)
      · intro w0_ hF_ hd_ Q_ K_ hK_
        have hc0_ := (bcell hF_).1
        have hf0_ := (bcell hF_).2
        have hz0_ := hF_.size; (try simp at hz0_)
        (try simp at hc0_ hf0_)
        have : w.heap.size < w0_.heap.size := by omega
        have : w7.heap.size < w0_.heap.size := by omega
        simp only [DepsR, Region.binds, Nat.zero_add, Nat.reduceAdd, true_implies, Bool.false_eq_true, false_implies, and_true, true_and, BEq.rfl, reduceCtorEq] at hd_
        go_simp
        refine (S2.out _ _ _ (by first | exact hd_.1 | exact hd_.2.1 | exact hd_.2.2.1) (by first | exact hd_.1 | exact hd_.2.1 | exact hd_.2.2.1)).mono ?_
        rintro e_ w1_ ⟨rfl, hb_⟩
        exact hK_.out _ _ _ (by first | rfl | (simp only [Act.put, List.setIfInBounds_toArray, List.set_cons_zero, List.set_cons_succ, hd_]; done) | (simp only [Act.put, List.setIfInBounds_toArray, List.set_cons_zero, List.set_cons_succ, hd_]; rfl)) hb_ rfl (fun h => by cases h)
      · intro w0_ hF_ hd_ Q_ K_ hK_
        have hc0_ := (bcell hF_).1
        have hf0_ := (bcell hF_).2
        have hz0_ := hF_.size; (try simp at hz0_)
        (try simp at hc0_ hf0_)
        have : w.heap.size < w0_.heap.size := by omega
        have : w7.heap.size < w0_.heap.size := by omega
        simp only [DepsR, Region.binds, Nat.zero_add, Nat.reduceAdd, true_implies, Bool.false_eq_true, false_implies, and_true, true_and, BEq.rfl, reduceCtorEq] at hd_
        go_simp
        exact hK_.out _ _ _ (by first | rfl | (simp only [Act.put, List.setIfInBounds_toArray, List.set_cons_zero, List.set_cons_succ, hd_]; done) | (simp only [Act.put, List.setIfInBounds_toArray, List.set_cons_zero, List.set_cons_succ, hd_]; rfl)) (Below.refl _ _) rfl (fun h => by cases h)
      · intro w0_ hF_ hd_ Q_ K_ hK_
        have hc0_ := (bcell hF_).1
        have hf0_ := (bcell hF_).2
        have hz0_ := hF_.size; (try simp at hz0_)
        (try simp at hc0_ hf0_)
        have : w.heap.size < w0_.heap.size := by omega
        have : w7.heap.size < w0_.heap.size := by omega
        simp only [DepsR, Region.binds, Nat.zero_add, Nat.reduceAdd, true_implies, Bool.false_eq_true, false_implies, and_true, true_and, BEq.rfl, reduceCtorEq] at hd_
        go_simp
        exact hK_.out _ _ _ (by first | rfl | (simp only [Act.put, List.setIfInBounds_toArray, List.set_cons_zero, List.set_cons_succ, hd_]; done) | (simp only [Act.put, List.setIfInBounds_toArray, List.set_cons_zero, List.set_cons_succ, hd_]; rfl)) (Below.refl _ _) rfl (fun h => by cases h)
    · intro vs w9 hBw9 hA_ hD_
      simp only [AllR, Nat.zero_add, Nat.reduceAdd, and_true] at hA_
      obtain ⟨r0_, r1_, r2_, r3_, r4_, r5_, r6_, r7_, r8_, r9_, r10_, r11_, r12_, r13_, r14_, r15_, r16_, r17_, r18_, r19_, r20_, r21_, r22_, r23_, r24_⟩ := hA_
      clear hD_
      simp only [putAll, Act.put, List.setIfInBounds_toArray, List.set_cons_zero, List.set_cons_succ, Nat.zero_add, Nat.reduceAdd, r0_, r1_, r2_, r3_, r4_, r5_, r6_, r7_, r8_, r9_, r10_, r12_, r14_, r15_, r16_, r17_, r18_, r20_, r22_, r23_, r24_]
      clear r0_ r1_ r2_ r3_ r4_ r5_ r6_ r7_ r8_ r9_ r10_ r12_ r14_ r15_ r16_ r17_ r18_ r20_ r22_ r23_ r24_
      obtain ⟨hcw9, hfw9⟩ := bcell hBw9; (try simp only [World.size_drew, World.cell?_drew, World.frozen?_drew] at hcw9 hfw9); have hzw9 := hBw9.size; (try simp at hzw9)
      have : w.heap.size < w9.heap.size := by omega
      have : w7.heap.size < w9.heap.size := by omega
      go_wp2
      go_ret
      refine ⟨rfl, ?_⟩
      repeat (first | (with_reducible exact Below.refl _ _) | (with_reducible refine Below.drew ?_) | (refine Below.setCell ?_ (by first | exact Nat.le_refl _ | (simp; done) | (simp; omega) | omega) _) | (refine Below.alloc ?_ (by first | exact Nat.le_refl _ | (simp; done) | (simp; omega) | omega) _) | (refine Below.trans ?_ (Below.mono (by assumption) (by first | exact Nat.le_refl _ | (simp; done) | (simp; omega) | omega))))

set_option maxRecDepth 100000 in
set_option maxHeartbeats 8000000 in
theorem wholes_bad (b : Bool) (m : Nat) (n : Int) (hm : m < 340282366920938463463374607431768211456) (hg : goodB b m = false) (hn : i64B n) (w : World) :
    Calls Try.prog 6 #[MV b m, .int .i64 n] w fun e w' => e = .returned (.bool true) ∧ Below w.heap.size w w' := by
  have C0 := Lib.hid awake_t
  have I1 := Lib.hid (int_z n hn)
  have W1 := Lib.hid (whole_int_w hn)
  have G1 := Lib.hid (good_z' (int_lt hn))
  have T1 : Hid (∀ w, Calls Try.prog 34 #[ZV (n * 1000000)] w fun e w' => e = .returned (ZV (n * 1000000)) ∧ Below w.heap.size w w') := by
    intro w; have k := trunc_z (n * 1000000) (int_lt hn) w; rw [trunc_int] at k; exact k
  have s1 : (negZ (n * 1000000) == decide (n < 0)) = true := by rw [← int_sgn]; simp
  have W2 := Lib.hid (whole_bad b m hg)
  have RG1 : Hid (∀ w, Calls Try.prog 16 #[MV b m] w fun e w' => e = .returned (.bool false) ∧ Below w.heap.size w w') := by
    intro w; have k := rgood_any b m hm w; rw [hg] at k; exact k
  have T2 := Lib.hid (trunc_bad b m hg)
  have N1 : Hid (∀ w, Calls Try.prog 35 #[MV b m] w fun e w' => e = .returned (ZV 0) ∧ Below w.heap.size w w') := neg_bad b m hg
  have e5 : ∀ w, (binOp .eql 24 (ZV 0) (.agg #[.bool false, .int .u64 0, .int .u64 0])).run Try.prog w = .ok (.bool true) w := eql_mm false false 0 0
  clear hm hg hn
  generalize n * 1000000 = nm at *
  have q1 : eqM (negZ nm) nm.natAbs (negZ nm) nm.natAbs = true := by rw [eqM_z]; simp
  have e1 := neq_mm (negZ nm) (negZ nm) nm.natAbs nm.natAbs
  rw [q1] at e1
  clear q1
  go_enter Try.func6, Try.ntmps6
  go_wp2_with fail; refine (C0.out _).mono ?_; rintro ew1 w1 ⟨rfl, hbw1⟩; obtain ⟨hcw1, hfw1⟩ := bcell hbw1; (try simp only [World.size_drew, World.cell?_drew, World.frozen?_drew] at hcw1 hfw1); have hzw1 := hbw1.size; (try simp at hzw1); have : w.heap.size < w1.heap.size := (by omega); (try dsimp only)
  go_wp2_with fail; refine (I1.out _).mono ?_; rintro ew2 w2 ⟨rfl, hbw2⟩; obtain ⟨hcw2, hfw2⟩ := bcell hbw2; (try simp only [World.size_drew, World.cell?_drew, World.frozen?_drew] at hcw2 hfw2); have hzw2 := hbw2.size; (try simp at hzw2); have : w.heap.size < w2.heap.size := (by omega); (try dsimp only)
  go_wp2_with fail; refine (W1.out _).mono ?_; rintro ew3 w3 ⟨rfl, hbw3⟩; obtain ⟨hcw3, hfw3⟩ := bcell hbw3; (try simp only [World.size_drew, World.cell?_drew, World.frozen?_drew] at hcw3 hfw3); have hzw3 := hbw3.size; (try simp at hzw3); have : w.heap.size < w3.heap.size := (by omega); have : w2.heap.size < w3.heap.size := (by omega); (try dsimp only)
  go_wp2_with fail
  refine wp_region_keep (t := fun j => j) (al := fun _ => false) (loud := fun _ => false)
    (R := fun j v u w' => match j with
      | 0 => v = ZV nm
      | 1 => v = .bool true
      | 2 => v = .bool false
      | 3 => v = .bool false
      | 4 => v = .int .i64 n
      | 5 => v = .int .i64 n
      | 6 => v = .bool false
      | 7 => v = .bool false
      | 8 => v = .bool false
      | 9 => v = .bool true
      | 10 => v = .bool false
      | 11 => v = .bool false
      | 12 => v = .bool false
      | 13 => v = .pointer (some ⟨w2.heap.size, 0, none⟩)
      | 14 => v = .bool (negZ nm)
      | 15 => v = .int .i64 n
      | 16 => v = .bool (decide (n < 0))
      | 17 => v = .bool false
      | 18 => v = .bool false
      | 19 => v = .bool false
      | 20 => v = ZV nm
      | 21 => v = ZV nm
      | 22 => v = ZV nm
      | 23 => v = .bool false
      | 24 => v = .bool false
      | _ => True) (by kernel_rfl) (by kernel_rfl) (by kernel_rfl) ?_ ?_ ?_ ?_
  · intro j v u w1_ w2_ h_ hF_ hB_
    (try dsimp only at h_ ⊢)
    split at h_ <;> first | exact h_ | exact NewR.on h_ hB_ | exact HasR.on h_ hB_ | exact IsNum.on h_ hB_ | exact HasNum.on h_ hB_ | exact RHeld.on h_ hB_ | trivial
  · intro j v u w1_ h1_ h_
    cases h1_
  · intro vs
    simp only [putAll, Act.put, List.setIfInBounds_toArray, List.set_cons_zero, List.set_cons_succ, Nat.zero_add, Nat.reduceAdd]
    refine ⟨?_, ?_, ?_, ?_, ?_, ?_, ?_, ?_, ?_, ?_, ?_, ?_, ?_, ?_, ?_, ?_, ?_, ?_, ?_, ?_, ?_, ?_, ?_, ?_, ?_, trivial⟩
    · intro w0_ hF_ hd_ Q_ K_ hK_
      have hc0_ := (bcell hF_).1
      have hf0_ := (bcell hF_).2
      have hz0_ := hF_.size; (try simp at hz0_)
      (try simp at hc0_ hf0_)
      have : w.heap.size < w0_.heap.size := by omega
      have : w2.heap.size < w0_.heap.size := by omega
      simp only [DepsR, Region.binds, Nat.zero_add, Nat.reduceAdd, true_implies, Bool.false_eq_true, false_implies, and_true, true_and, BEq.rfl, reduceCtorEq] at hd_
      go_simp
      exact hK_.out _ _ _ (by first | rfl | (simp only [Act.put, List.setIfInBounds_toArray, List.set_cons_zero, List.set_cons_succ, hd_]; done) | (simp only [Act.put, List.setIfInBounds_toArray, List.set_cons_zero, List.set_cons_succ, hd_]; rfl)) (Below.refl _ _) rfl (fun h => by cases h)
    · intro w0_ hF_ hd_ Q_ K_ hK_
      have hc0_ := (bcell hF_).1
      have hf0_ := (bcell hF_).2
      have hz0_ := hF_.size; (try simp at hz0_)
      (try simp at hc0_ hf0_)
      have : w.heap.size < w0_.heap.size := by omega
      have : w2.heap.size < w0_.heap.size := by omega
      simp only [DepsR, Region.binds, Nat.zero_add, Nat.reduceAdd, true_implies, Bool.false_eq_true, false_implies, and_true, true_and, BEq.rfl, reduceCtorEq] at hd_
      go_simp
      refine (G1.out _).mono ?_
      rintro e_ w1_ ⟨rfl, hb_⟩
      exact hK_.out _ _ _ (by first | rfl | (simp only [Act.put, List.setIfInBounds_toArray, List.set_cons_zero, List.set_cons_succ, hd_]; done) | (simp only [Act.put, List.setIfInBounds_toArray, List.set_cons_zero, List.set_cons_succ, hd_]; rfl)) hb_ rfl (fun h => by cases h)
    · intro w0_ hF_ hd_ Q_ K_ hK_
      have hc0_ := (bcell hF_).1
      have hf0_ := (bcell hF_).2
      have hz0_ := hF_.size; (try simp at hz0_)
      (try simp at hc0_ hf0_)
      have : w.heap.size < w0_.heap.size := by omega
      have : w2.heap.size < w0_.heap.size := by omega
      simp only [DepsR, Region.binds, Nat.zero_add, Nat.reduceAdd, true_implies, Bool.false_eq_true, false_implies, and_true, true_and, BEq.rfl, reduceCtorEq] at hd_
      go_simp
      exact hK_.out _ _ _ (by first | rfl | (simp only [Act.put, List.setIfInBounds_toArray, List.set_cons_zero, List.set_cons_succ, hd_]; done) | (simp only [Act.put, List.setIfInBounds_toArray, List.set_cons_zero, List.set_cons_succ, hd_]; rfl)) (Below.refl _ _) rfl (fun h => by cases h)
    · intro w0_ hF_ hd_ Q_ K_ hK_
      have hc0_ := (bcell hF_).1
      have hf0_ := (bcell hF_).2
      have hz0_ := hF_.size; (try simp at hz0_)
      (try simp at hc0_ hf0_)
      have : w.heap.size < w0_.heap.size := by omega
      have : w2.heap.size < w0_.heap.size := by omega
      simp only [DepsR, Region.binds, Nat.zero_add, Nat.reduceAdd, true_implies, Bool.false_eq_true, false_implies, and_true, true_and, BEq.rfl, reduceCtorEq] at hd_
      go_simp
      exact hK_.out _ _ _ (by first | rfl | (simp only [Act.put, List.setIfInBounds_toArray, List.set_cons_zero, List.set_cons_succ, hd_]; done) | (simp only [Act.put, List.setIfInBounds_toArray, List.set_cons_zero, List.set_cons_succ, hd_]; rfl)) (Below.refl _ _) rfl (fun h => by cases h)
    · intro w0_ hF_ hd_ Q_ K_ hK_
      have hc0_ := (bcell hF_).1
      have hf0_ := (bcell hF_).2
      have hz0_ := hF_.size; (try simp at hz0_)
      (try simp at hc0_ hf0_)
      have : w.heap.size < w0_.heap.size := by omega
      have : w2.heap.size < w0_.heap.size := by omega
      simp only [DepsR, Region.binds, Nat.zero_add, Nat.reduceAdd, true_implies, Bool.false_eq_true, false_implies, and_true, true_and, BEq.rfl, reduceCtorEq] at hd_
      go_simp
      exact hK_.out _ _ _ (by first | rfl | (simp only [Act.put, List.setIfInBounds_toArray, List.set_cons_zero, List.set_cons_succ, hd_]; done) | (simp only [Act.put, List.setIfInBounds_toArray, List.set_cons_zero, List.set_cons_succ, hd_]; rfl)) (Below.refl _ _) rfl (fun h => by cases h)
    · intro w0_ hF_ hd_ Q_ K_ hK_
      have hc0_ := (bcell hF_).1
      have hf0_ := (bcell hF_).2
      have hz0_ := hF_.size; (try simp at hz0_)
      (try simp at hc0_ hf0_)
      have : w.heap.size < w0_.heap.size := by omega
      have : w2.heap.size < w0_.heap.size := by omega
      simp only [DepsR, Region.binds, Nat.zero_add, Nat.reduceAdd, true_implies, Bool.false_eq_true, false_implies, and_true, true_and, BEq.rfl, reduceCtorEq] at hd_
      go_simp
      exact hK_.out _ _ _ (by first | rfl | (simp only [Act.put, List.setIfInBounds_toArray, List.set_cons_zero, List.set_cons_succ, hd_]; done) | (simp only [Act.put, List.setIfInBounds_toArray, List.set_cons_zero, List.set_cons_succ, hd_]; rfl)) (Below.refl _ _) rfl (fun h => by cases h)
    · intro w0_ hF_ hd_ Q_ K_ hK_
      have hc0_ := (bcell hF_).1
      have hf0_ := (bcell hF_).2
      have hz0_ := hF_.size; (try simp at hz0_)
      (try simp at hc0_ hf0_)
      have : w.heap.size < w0_.heap.size := by omega
      have : w2.heap.size < w0_.heap.size := by omega
      simp only [DepsR, Region.binds, Nat.zero_add, Nat.reduceAdd, true_implies, Bool.false_eq_true, false_implies, and_true, true_and, BEq.rfl, reduceCtorEq] at hd_
      go_simp
      exact hK_.out _ _ _ (by first | rfl | (simp only [Act.put, List.setIfInBounds_toArray, List.set_cons_zero, List.set_cons_succ, hd_]; done) | (simp only [Act.put, List.setIfInBounds_toArray, List.set_cons_zero, List.set_cons_succ, hd_]; rfl)) (Below.refl _ _) rfl (fun h => by cases h)
    · intro w0_ hF_ hd_ Q_ K_ hK_
      have hc0_ := (bcell hF_).1
      have hf0_ := (bcell hF_).2
      have hz0_ := hF_.size; (try simp at hz0_)
      (try simp at hc0_ hf0_)
      have : w.heap.size < w0_.heap.size := by omega
      have : w2.heap.size < w0_.heap.size := by omega
      simp only [DepsR, Region.binds, Nat.zero_add, Nat.reduceAdd, true_implies, Bool.false_eq_true, false_implies, and_true, true_and, BEq.rfl, reduceCtorEq] at hd_
      go_simp
      exact hK_.out _ _ _ (by first | rfl | (simp only [Act.put, List.setIfInBounds_toArray, List.set_cons_zero, List.set_cons_succ, hd_]; done) | (simp only [Act.put, List.setIfInBounds_toArray, List.set_cons_zero, List.set_cons_succ, hd_]; rfl)) (Below.refl _ _) rfl (fun h => by cases h)
    · intro w0_ hF_ hd_ Q_ K_ hK_
      have hc0_ := (bcell hF_).1
      have hf0_ := (bcell hF_).2
      have hz0_ := hF_.size; (try simp at hz0_)
      (try simp at hc0_ hf0_)
      have : w.heap.size < w0_.heap.size := by omega
      have : w2.heap.size < w0_.heap.size := by omega
      simp only [DepsR, Region.binds, Nat.zero_add, Nat.reduceAdd, true_implies, Bool.false_eq_true, false_implies, and_true, true_and, BEq.rfl, reduceCtorEq] at hd_
      go_simp
      exact hK_.out _ _ _ (by first | rfl | (simp only [Act.put, List.setIfInBounds_toArray, List.set_cons_zero, List.set_cons_succ, hd_]; done) | (simp only [Act.put, List.setIfInBounds_toArray, List.set_cons_zero, List.set_cons_succ, hd_]; rfl)) (Below.refl _ _) rfl (fun h => by cases h)
    · intro w0_ hF_ hd_ Q_ K_ hK_
      have hc0_ := (bcell hF_).1
      have hf0_ := (bcell hF_).2
      have hz0_ := hF_.size; (try simp at hz0_)
      (try simp at hc0_ hf0_)
      have : w.heap.size < w0_.heap.size := by omega
      have : w2.heap.size < w0_.heap.size := by omega
      simp only [DepsR, Region.binds, Nat.zero_add, Nat.reduceAdd, true_implies, Bool.false_eq_true, false_implies, and_true, true_and, BEq.rfl, reduceCtorEq] at hd_
      go_simp
      exact hK_.out _ _ _ (by first | rfl | (simp only [Act.put, List.setIfInBounds_toArray, List.set_cons_zero, List.set_cons_succ, hd_]; done) | (simp only [Act.put, List.setIfInBounds_toArray, List.set_cons_zero, List.set_cons_succ, hd_]; rfl)) (Below.refl _ _) rfl (fun h => by cases h)
    · intro w0_ hF_ hd_ Q_ K_ hK_
      have hc0_ := (bcell hF_).1
      have hf0_ := (bcell hF_).2
      have hz0_ := hF_.size; (try simp at hz0_)
      (try simp at hc0_ hf0_)
      have : w.heap.size < w0_.heap.size := by omega
      have : w2.heap.size < w0_.heap.size := by omega
      simp only [DepsR, Region.binds, Nat.zero_add, Nat.reduceAdd, true_implies, Bool.false_eq_true, false_implies, and_true, true_and, BEq.rfl, reduceCtorEq] at hd_
      go_simp
      exact hK_.out _ _ _ (by first | rfl | (simp only [Act.put, List.setIfInBounds_toArray, List.set_cons_zero, List.set_cons_succ, hd_]; done) | (simp only [Act.put, List.setIfInBounds_toArray, List.set_cons_zero, List.set_cons_succ, hd_]; rfl)) (Below.refl _ _) rfl (fun h => by cases h)
    · intro w0_ hF_ hd_ Q_ K_ hK_
      have hc0_ := (bcell hF_).1
      have hf0_ := (bcell hF_).2
      have hz0_ := hF_.size; (try simp at hz0_)
      (try simp at hc0_ hf0_)
      have : w.heap.size < w0_.heap.size := by omega
      have : w2.heap.size < w0_.heap.size := by omega
      simp only [DepsR, Region.binds, Nat.zero_add, Nat.reduceAdd, true_implies, Bool.false_eq_true, false_implies, and_true, true_and, BEq.rfl, reduceCtorEq] at hd_
      go_simp
      exact hK_.out _ _ _ (by first | rfl | (simp only [Act.put, List.setIfInBounds_toArray, List.set_cons_zero, List.set_cons_succ, hd_]; done) | (simp only [Act.put, List.setIfInBounds_toArray, List.set_cons_zero, List.set_cons_succ, hd_]; rfl)) (Below.refl _ _) rfl (fun h => by cases h)
    · intro w0_ hF_ hd_ Q_ K_ hK_
      have hc0_ := (bcell hF_).1
      have hf0_ := (bcell hF_).2
      have hz0_ := hF_.size; (try simp at hz0_)
      (try simp at hc0_ hf0_)
      have : w.heap.size < w0_.heap.size := by omega
      have : w2.heap.size < w0_.heap.size := by omega
      simp only [DepsR, Region.binds, Nat.zero_add, Nat.reduceAdd, true_implies, Bool.false_eq_true, false_implies, and_true, true_and, BEq.rfl, reduceCtorEq] at hd_
      go_simp
      exact hK_.out _ _ _ (by first | rfl | (simp only [Act.put, List.setIfInBounds_toArray, List.set_cons_zero, List.set_cons_succ, hd_]; done) | (simp only [Act.put, List.setIfInBounds_toArray, List.set_cons_zero, List.set_cons_succ, hd_]; rfl)) (Below.refl _ _) rfl (fun h => by cases h)
    · intro w0_ hF_ hd_ Q_ K_ hK_
      have hc0_ := (bcell hF_).1
      have hf0_ := (bcell hF_).2
      have hz0_ := hF_.size; (try simp at hz0_)
      (try simp at hc0_ hf0_)
      have : w.heap.size < w0_.heap.size := by omega
      have : w2.heap.size < w0_.heap.size := by omega
      simp only [DepsR, Region.binds, Nat.zero_add, Nat.reduceAdd, true_implies, Bool.false_eq_true, false_implies, and_true, true_and, BEq.rfl, reduceCtorEq] at hd_
      go_simp
      exact hK_.out _ _ _ (by first | rfl | (simp only [Act.put, List.setIfInBounds_toArray, List.set_cons_zero, List.set_cons_succ, hd_]; done) | (simp only [Act.put, List.setIfInBounds_toArray, List.set_cons_zero, List.set_cons_succ, hd_]; rfl)) (Below.refl _ _) rfl (fun h => by cases h)
    · intro w0_ hF_ hd_ Q_ K_ hK_
      have hc0_ := (bcell hF_).1
      have hf0_ := (bcell hF_).2
      have hz0_ := hF_.size; (try simp at hz0_)
      (try simp at hc0_ hf0_)
      have : w.heap.size < w0_.heap.size := by omega
      have : w2.heap.size < w0_.heap.size := by omega
      simp only [DepsR, Region.binds, Nat.zero_add, Nat.reduceAdd, true_implies, Bool.false_eq_true, false_implies, and_true, true_and, BEq.rfl, reduceCtorEq] at hd_
      go_simp
      exact hK_.out _ _ _ (by first | rfl | (simp only [Act.put, List.setIfInBounds_toArray, List.set_cons_zero, List.set_cons_succ, hd_]; done) | (simp only [Act.put, List.setIfInBounds_toArray, List.set_cons_zero, List.set_cons_succ, hd_]; rfl)) (Below.refl _ _) rfl (fun h => by cases h)
    · intro w0_ hF_ hd_ Q_ K_ hK_
      have hc0_ := (bcell hF_).1
      have hf0_ := (bcell hF_).2
      have hz0_ := hF_.size; (try simp at hz0_)
      (try simp at hc0_ hf0_)
      have : w.heap.size < w0_.heap.size := by omega
      have : w2.heap.size < w0_.heap.size := by omega
      simp only [DepsR, Region.binds, Nat.zero_add, Nat.reduceAdd, true_implies, Bool.false_eq_true, false_implies, and_true, true_and, BEq.rfl, reduceCtorEq] at hd_
      go_simp
      exact hK_.out _ _ _ (by first | rfl | (simp only [Act.put, List.setIfInBounds_toArray, List.set_cons_zero, List.set_cons_succ, hd_]; done) | (simp only [Act.put, List.setIfInBounds_toArray, List.set_cons_zero, List.set_cons_succ, hd_]; rfl)) (Below.refl _ _) rfl (fun h => by cases h)
    · intro w0_ hF_ hd_ Q_ K_ hK_
      have hc0_ := (bcell hF_).1
      have hf0_ := (bcell hF_).2
      have hz0_ := hF_.size; (try simp at hz0_)
      (try simp at hc0_ hf0_)
      have : w.heap.size < w0_.heap.size := by omega
      have : w2.heap.size < w0_.heap.size := by omega
      simp only [DepsR, Region.binds, Nat.zero_add, Nat.reduceAdd, true_implies, Bool.false_eq_true, false_implies, and_true, true_and, BEq.rfl, reduceCtorEq] at hd_
      go_simp
      exact hK_.out _ _ _ (by first | rfl | (simp only [Act.put, List.setIfInBounds_toArray, List.set_cons_zero, List.set_cons_succ, hd_]; done) | (simp only [Act.put, List.setIfInBounds_toArray, List.set_cons_zero, List.set_cons_succ, hd_]; rfl)) (Below.refl _ _) rfl (fun h => by cases h)
    · intro w0_ hF_ hd_ Q_ K_ hK_
      have hc0_ := (bcell hF_).1
      have hf0_ := (bcell hF_).2
      have hz0_ := hF_.size; (try simp at hz0_)
      (try simp at hc0_ hf0_)
      have : w.heap.size < w0_.heap.size := by omega
      have : w2.heap.size < w0_.heap.size := by omega
      simp only [DepsR, Region.binds, Nat.zero_add, Nat.reduceAdd, true_implies, Bool.false_eq_true, false_implies, and_true, true_and, BEq.rfl, reduceCtorEq] at hd_
      go_simp
      exact hK_.out _ _ _ (by first | rfl | (simp only [Act.put, List.setIfInBounds_toArray, List.set_cons_zero, List.set_cons_succ, hd_]; done) | (simp only [Act.put, List.setIfInBounds_toArray, List.set_cons_zero, List.set_cons_succ, hd_]; rfl)) (Below.refl _ _) rfl (fun h => by cases h)
    · intro w0_ hF_ hd_ Q_ K_ hK_
      have hc0_ := (bcell hF_).1
      have hf0_ := (bcell hF_).2
      have hz0_ := hF_.size; (try simp at hz0_)
      (try simp at hc0_ hf0_)
      have : w.heap.size < w0_.heap.size := by omega
      have : w2.heap.size < w0_.heap.size := by omega
      simp only [DepsR, Region.binds, Nat.zero_add, Nat.reduceAdd, true_implies, Bool.false_eq_true, false_implies, and_true, true_and, BEq.rfl, reduceCtorEq] at hd_
      go_simp
      exact hK_.out _ _ _ (by first | rfl | (simp only [Act.put, List.setIfInBounds_toArray, List.set_cons_zero, List.set_cons_succ, hd_]; done) | (simp only [Act.put, List.setIfInBounds_toArray, List.set_cons_zero, List.set_cons_succ, hd_]; rfl)) (Below.refl _ _) rfl (fun h => by cases h)
    · intro w0_ hF_ hd_ Q_ K_ hK_
      have hc0_ := (bcell hF_).1
      have hf0_ := (bcell hF_).2
      have hz0_ := hF_.size; (try simp at hz0_)
      (try simp at hc0_ hf0_)
      have : w.heap.size < w0_.heap.size := by omega
      have : w2.heap.size < w0_.heap.size := by omega
      simp only [DepsR, Region.binds, Nat.zero_add, Nat.reduceAdd, true_implies, Bool.false_eq_true, false_implies, and_true, true_and, BEq.rfl, reduceCtorEq] at hd_
      go_simp
      exact hK_.out _ _ _ (by first | rfl | (simp only [Act.put, List.setIfInBounds_toArray, List.set_cons_zero, List.set_cons_succ, hd_]; done) | (simp only [Act.put, List.setIfInBounds_toArray, List.set_cons_zero, List.set_cons_succ, hd_]; rfl)) (Below.refl _ _) rfl (fun h => by cases h)
    · intro w0_ hF_ hd_ Q_ K_ hK_
      have hc0_ := (bcell hF_).1
      have hf0_ := (bcell hF_).2
      have hz0_ := hF_.size; (try simp at hz0_)
      (try simp at hc0_ hf0_)
      have : w.heap.size < w0_.heap.size := by omega
      have : w2.heap.size < w0_.heap.size := by omega
      simp only [DepsR, Region.binds, Nat.zero_add, Nat.reduceAdd, true_implies, Bool.false_eq_true, false_implies, and_true, true_and, BEq.rfl, reduceCtorEq] at hd_
      go_simp
      exact hK_.out _ _ _ (by first | rfl | (simp only [Act.put, List.setIfInBounds_toArray, List.set_cons_zero, List.set_cons_succ, hd_]; done) | (simp only [Act.put, List.setIfInBounds_toArray, List.set_cons_zero, List.set_cons_succ, hd_]; rfl)) (Below.refl _ _) rfl (fun h => by cases h)
    · intro w0_ hF_ hd_ Q_ K_ hK_
      have hc0_ := (bcell hF_).1
      have hf0_ := (bcell hF_).2
      have hz0_ := hF_.size; (try simp at hz0_)
      (try simp at hc0_ hf0_)
      have : w.heap.size < w0_.heap.size := by omega
      have : w2.heap.size < w0_.heap.size := by omega
      simp only [DepsR, Region.binds, Nat.zero_add, Nat.reduceAdd, true_implies, Bool.false_eq_true, false_implies, and_true, true_and, BEq.rfl, reduceCtorEq] at hd_
      go_simp
      refine (T1.out _).mono ?_
      rintro e_ w1_ ⟨rfl, hb_⟩
      exact hK_.out _ _ _ (by first | rfl | (simp only [Act.put, List.setIfInBounds_toArray, List.set_cons_zero, List.set_cons_succ, hd_]; done) | (simp only [Act.put, List.setIfInBounds_toArray, List.set_cons_zero, List.set_cons_succ, hd_]; rfl)) hb_ rfl (fun h => by cases h)
    · intro w0_ hF_ hd_ Q_ K_ hK_
      have hc0_ := (bcell hF_).1
      have hf0_ := (bcell hF_).2
      have hz0_ := hF_.size; (try simp at hz0_)
      (try simp at hc0_ hf0_)
      have : w.heap.size < w0_.heap.size := by omega
      have : w2.heap.size < w0_.heap.size := by omega
      simp only [DepsR, Region.binds, Nat.zero_add, Nat.reduceAdd, true_implies, Bool.false_eq_true, false_implies, and_true, true_and, BEq.rfl, reduceCtorEq] at hd_
      go_simp
      exact hK_.out _ _ _ (by first | rfl | (simp only [Act.put, List.setIfInBounds_toArray, List.set_cons_zero, List.set_cons_succ, hd_]; done) | (simp only [Act.put, List.setIfInBounds_toArray, List.set_cons_zero, List.set_cons_succ, hd_]; rfl)) (Below.refl _ _) rfl (fun h => by cases h)
    · intro w0_ hF_ hd_ Q_ K_ hK_
      have hc0_ := (bcell hF_).1
      have hf0_ := (bcell hF_).2
      have hz0_ := hF_.size; (try simp at hz0_)
      (try simp at hc0_ hf0_)
      have : w.heap.size < w0_.heap.size := by omega
      have : w2.heap.size < w0_.heap.size := by omega
      simp only [DepsR, Region.binds, Nat.zero_add, Nat.reduceAdd, true_implies, Bool.false_eq_true, false_implies, and_true, true_and, BEq.rfl, reduceCtorEq] at hd_
      go_simp
      exact hK_.out _ _ _ (by first | rfl | (simp only [Act.put, List.setIfInBounds_toArray, List.set_cons_zero, List.set_cons_succ, hd_]; done) | (simp only [Act.put, List.setIfInBounds_toArray, List.set_cons_zero, List.set_cons_succ, hd_]; rfl)) (Below.refl _ _) rfl (fun h => by cases h)
    · intro w0_ hF_ hd_ Q_ K_ hK_
      have hc0_ := (bcell hF_).1
      have hf0_ := (bcell hF_).2
      have hz0_ := hF_.size; (try simp at hz0_)
      (try simp at hc0_ hf0_)
      have : w.heap.size < w0_.heap.size := by omega
      have : w2.heap.size < w0_.heap.size := by omega
      simp only [DepsR, Region.binds, Nat.zero_add, Nat.reduceAdd, true_implies, Bool.false_eq_true, false_implies, and_true, true_and, BEq.rfl, reduceCtorEq] at hd_
      go_simp
      exact hK_.out _ _ _ (by first | rfl | (simp only [Act.put, List.setIfInBounds_toArray, List.set_cons_zero, List.set_cons_succ, hd_]; done) | (simp only [Act.put, List.setIfInBounds_toArray, List.set_cons_zero, List.set_cons_succ, hd_]; rfl)) (Below.refl _ _) rfl (fun h => by cases h)
  · intro vs w4 hBw4 hA_ hD_
    simp only [AllR, Nat.zero_add, Nat.reduceAdd, and_true] at hA_
    obtain ⟨r0_, r1_, r2_, r3_, r4_, r5_, r6_, r7_, r8_, r9_, r10_, r11_, r12_, r13_, r14_, r15_, r16_, r17_, r18_, r19_, r20_, r21_, r22_, r23_, r24_⟩ := hA_
    clear hD_
    simp only [putAll, Act.put, List.setIfInBounds_toArray, List.set_cons_zero, List.set_cons_succ, Nat.zero_add, Nat.reduceAdd, r0_, r1_, r2_, r3_, r4_, r5_, r6_, r7_, r8_, r9_, r10_, r11_, r12_, r13_, r14_, r15_, r16_, r17_, r18_, r19_, r20_, r21_, r22_, r23_, r24_]
    clear r0_ r1_ r2_ r3_ r4_ r5_ r6_ r7_ r8_ r9_ r10_ r11_ r12_ r13_ r14_ r15_ r16_ r17_ r18_ r19_ r20_ r21_ r22_ r23_ r24_
    obtain ⟨hcw4, hfw4⟩ := bcell hBw4; (try simp only [World.size_drew, World.cell?_drew, World.frozen?_drew] at hcw4 hfw4); have hzw4 := hBw4.size; (try simp at hzw4)
    have : w.heap.size < w4.heap.size := by omega
    have : w2.heap.size < w4.heap.size := by omega
    clear e1 s1
    go_wp2_with fail; refine (W2.out _).mono ?_; rintro ew5 w5 ⟨rfl, hbw5⟩; obtain ⟨hcw5, hfw5⟩ := bcell hbw5; (try simp only [World.size_drew, World.cell?_drew, World.frozen?_drew] at hcw5 hfw5); have hzw5 := hbw5.size; (try simp at hzw5); have : w.heap.size < w5.heap.size := (by omega); have : w2.heap.size < w5.heap.size := (by omega); (try dsimp only)
    go_wp2_with fail; refine (RG1.out _).mono ?_; rintro ew6 w6 ⟨rfl, hbw6⟩; obtain ⟨hcw6, hfw6⟩ := bcell hbw6; (try simp only [World.size_drew, World.cell?_drew, World.frozen?_drew] at hcw6 hfw6); have hzw6 := hbw6.size; (try simp at hzw6); have : w.heap.size < w6.heap.size := (by omega); have : w2.heap.size < w6.heap.size := (by omega); (try dsimp only)
    go_wp2_with fail; refine (T2.out _).mono ?_; rintro ew7 w7 ⟨rfl, hbw7⟩; obtain ⟨hcw7, hfw7⟩ := bcell hbw7; (try simp only [World.size_drew, World.cell?_drew, World.frozen?_drew] at hcw7 hfw7); have hzw7 := hbw7.size; (try simp at hzw7); have : w.heap.size < w7.heap.size := (by omega); (try dsimp only)
    go_wp2_with fail; refine (N1.out _).mono ?_; rintro ew8 w8 ⟨rfl, hbw8⟩; obtain ⟨hcw8, hfw8⟩ := bcell hbw8; (try simp only [World.size_drew, World.cell?_drew, World.frozen?_drew] at hcw8 hfw8); have hzw8 := hbw8.size; (try simp at hzw8); have : w.heap.size < w8.heap.size := (by omega); (try dsimp only)
    go_wp2
    go_ret
    refine ⟨rfl, ?_⟩
    repeat (first | (with_reducible exact Below.refl _ _) | (with_reducible refine Below.drew ?_) | (refine Below.setCell ?_ (by first | exact Nat.le_refl _ | (simp; done) | (simp; omega) | omega) _) | (refine Below.alloc ?_ (by first | exact Nat.le_refl _ | (simp; done) | (simp; omega) | omega) _) | (refine Below.trans ?_ (Below.mono (by assumption) (by first | exact Nat.le_refl _ | (simp; done) | (simp; omega) | omega))))

theorem wholes_w (b : Bool) (m : Nat) (hm : m < 340282366920938463463374607431768211456) (n : Int) (hn : -9223372036854775808 ≤ n ∧ n ≤ 9223372036854775807) (w : World) :
    Calls Try.prog 6 #[MV b m, .int .i64 n] w fun e w' => e = .returned (.bool true) ∧ Below w.heap.size w w' := by
  cases h : goodB b m
  · exact wholes_bad b m n hm h hn w
  · obtain ⟨x, hx, rfl, rfl⟩ := good_z h
    exact wholes_ok x n hx hn w
end Go.Proofs.Ytanfgolelhmdhaa
