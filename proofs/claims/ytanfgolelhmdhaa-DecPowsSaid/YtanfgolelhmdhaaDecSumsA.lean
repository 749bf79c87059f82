/- The walk of the statement DecSums: both numbers right. -/
import Derived.Test.YtanfgolelhmdhaaRefI
import Derived.Test.YtanfgolelhmdhaaDecX
import Derived.Test.YtanfgolelhmdhaaDecUnitsB
import Derived.Test.YtanfgolelhmdhaaDecSigns
namespace Go.Proofs.Ytanfgolelhmdhaa
set_option linter.unusedSimpArgs false
set_option linter.unusedVariables false
set_option linter.unnecessarySimpa false
open Go.RowKit

theorem lheld_fit (z : Int) {v : Value} {w : World} (h : IsNum w v (negZ (fitZ z)) (fitZ z).natAbs) :
    Calls Try.prog 22 #[ZV (fitZ z), errV (fitC z.natAbs), v, .int .i64 (fitC z.natAbs : Nat)] w fun e w' => e = .returned (.bool true) ∧ Below w.heap.size w w' := by
  by_cases hz : z.natAbs < topN
  · have e1 : fitZ z = z := by unfold fitZ; rw [if_pos hz]
    have e2 : fitC z.natAbs = 0 := by unfold fitC; rw [if_pos hz]
    rw [e1] at h
    rw [e1, e2]
    exact lheld_ok h hz
  · have e1 : fitZ z = 0 := by unfold fitZ; rw [if_neg hz]
    have e2 : fitC z.natAbs = 2 := by unfold fitC; rw [if_neg hz]
    rw [e1, e2]
    exact lheld_err h (by decide) (by decide)
theorem top200 {x : Int} (h : x.natAbs < topN) : x.natAbs < 10 ^ 200 := by
  rw [topN_eq] at h
  have : (10 : Nat) ^ 36 ≤ 10 ^ 200 := Nat.pow_le_pow_right (by omega) (by omega)
  omega
theorem top_len {x : Int} (h : x.natAbs < topN) : (dig x.natAbs).length ≤ 1000 := Nat.le_trans (dig_len_le (k := 36) (by rw [topN_eq] at h; omega)) (by omega)

set_option maxRecDepth 100000 in
set_option maxHeartbeats 8000000 in
theorem sums_ok (x y : Int) (hx : x.natAbs < topN) (hy : y.natAbs < topN) (w : World) :
    Calls Try.prog 3 #[ZV x, ZV y] w fun e w' => e = .returned (.bool true) ∧ Below w.heap.size w w' := by
  have hny : (-y).natAbs < topN := by rw [Int.natAbs_neg]; exact hy
  have C0 := Lib.hid awake_t
  have A1 : Hid (∀ w, Calls Try.prog 13 #[ZV x, ZV y] w fun e w' => e = .returned (.tuple #[ZV (fitZ (x + y)), errV (fitC (x + y).natAbs)]) ∧ Below w.heap.size w w') := add_z x y hx hy
  have A2 : Hid (∀ w, Calls Try.prog 14 #[ZV x, ZV y] w fun e w' => e = .returned (.tuple #[ZV (fitZ (x - y)), errV (fitC (x - y).natAbs)]) ∧ Below w.heap.size w w') := sub_z x y hx hy
  have G1 := Lib.hid (good_z' hx)
  have G2 := Lib.hid (good_z' hy)
  have m1 : x.natAbs < 340282366920938463463374607431768211456 := by rw [topN_eq] at hx; omega
  have m2 : y.natAbs < 340282366920938463463374607431768211456 := by rw [topN_eq] at hy; omega
  have RG1 : Hid (∀ w, Calls Try.prog 16 #[ZV x] w fun e w' => e = .returned (.bool true) ∧ Below w.heap.size w w') := by
    intro w; have k := rgood_any (negZ x) x.natAbs m1 w; rw [goodB_z, decide_eq_true hx] at k; exact k
  have RG2 : Hid (∀ w, Calls Try.prog 16 #[ZV y] w fun e w' => e = .returned (.bool true) ∧ Below w.heap.size w w') := by
    intro w; have k := rgood_any (negZ y) y.natAbs m2 w; rw [goodB_z, decide_eq_true hy] at k; exact k
  have O1 : Hid (∀ w, Calls Try.prog 19 #[ZV x] w (RetNum (negZ x) x.natAbs w)) := of_any (negZ x) x.natAbs m1
  have O2 : Hid (∀ w, Calls Try.prog 19 #[ZV y] w (RetNum (negZ y) y.natAbs w)) := of_any (negZ y) y.natAbs m2
  have RA : Hid (∀ W v v', IsNum W v (negZ x) x.natAbs → IsNum W v' (negZ y) y.natAbs → Calls Try.prog 20 #[v, v'] W (RetHeld (negZ (fitZ (x + y))) (fitZ (x + y)).natAbs (fitC (x + y).natAbs) W)) :=
    fun W v v' h h' => radd_z h h' (top200 hx) (top200 hy)
  have RN : Hid (∀ W v, IsNum W v (negZ y) y.natAbs → Calls Try.prog 21 #[v] W (RetNum (negZ (-y)) (-y).natAbs W)) := fun W v h => rneg_any h (top_len hy)
  have RA2 : Hid (∀ W v v', IsNum W v (negZ x) x.natAbs → IsNum W v' (negZ (-y)) (-y).natAbs → Calls Try.prog 20 #[v, v'] W (RetHeld (negZ (fitZ (x - y))) (fitZ (x - y)).natAbs (fitC (x - y).natAbs) W)) :=
    fun W v v' h h' => radd_z (y := -y) h h' (top200 hx) (top200 hny)
  have H1 : Hid (∀ W v, IsNum W v (negZ (fitZ (x + y))) (fitZ (x + y)).natAbs → Calls Try.prog 22 #[ZV (fitZ (x + y)), errV (fitC (x + y).natAbs), v, .int .i64 (fitC (x + y).natAbs : Nat)] W (fun e w' => e = .returned (.bool true) ∧ Below W.heap.size W w')) := fun W v h => lheld_fit (x + y) h
  have H2 : Hid (∀ W v, IsNum W v (negZ (fitZ (x - y))) (fitZ (x - y)).natAbs → Calls Try.prog 22 #[ZV (fitZ (x - y)), errV (fitC (x - y).natAbs), v, .int .i64 (fitC (x - y).natAbs : Nat)] W (fun e w' => e = .returned (.bool true) ∧ Below W.heap.size W w')) := fun W v h => lheld_fit (x - y) h
  have P1 := Lib.hid (cmp_z x y hx hy)
  have P2 : Hid (∀ W v v', IsNum W v (negZ x) x.natAbs → IsNum W v' (negZ y) y.natAbs → Calls Try.prog 23 #[v, v'] W (fun e w' => e = .returned (.int .i64 (cmpZ x y)) ∧ Below W.heap.size W w')) :=
    fun W v v' h h' => rcmp_z h h' (top_len hx) (top_len hy)
  clear hx hy hny m1 m2
  generalize fitC (x + y).natAbs = k1 at *
  generalize fitZ (x + y) = s at *
  generalize fitC (x - y).natAbs = k2 at *
  generalize fitZ (x - y) = d at *
  generalize negZ (-y) = ny' at *
  generalize (-y).natAbs = my' at *
  generalize cmpZ x y = cz at *
  go_enter Try.func3, Try.ntmps3
  go_wp2_with fail; refine (C0.out _).mono ?_; rintro ew1 w1 ⟨rfl, hbw1⟩; obtain ⟨hcw1, hfw1⟩ := bcell hbw1; (try simp only [World.size_drew, World.cell?_drew, World.frozen?_drew] at hcw1 hfw1); have hzw1 := hbw1.size; (try simp at hzw1); have : w.heap.size < w1.heap.size := (by omega); have : w.heap.size + 1 < w1.heap.size := (by omega); (try dsimp only)
  go_wp2_with fail; refine (A1.out _).mono ?_; rintro ew2 w2 ⟨rfl, hbw2⟩; obtain ⟨hcw2, hfw2⟩ := bcell hbw2; (try simp only [World.size_drew, World.cell?_drew, World.frozen?_drew] at hcw2 hfw2); have hzw2 := hbw2.size; (try simp at hzw2); have : w.heap.size < w2.heap.size := (by omega); have : w.heap.size + 1 < w2.heap.size := (by omega); (try dsimp only)
  go_wp2_with fail; refine (A2.out _).mono ?_; rintro ew3 w3 ⟨rfl, hbw3⟩; obtain ⟨hcw3, hfw3⟩ := bcell hbw3; (try simp only [World.size_drew, World.cell?_drew, World.frozen?_drew] at hcw3 hfw3); have hzw3 := hbw3.size; (try simp at hzw3); have : w.heap.size < w3.heap.size := (by omega); have : w.heap.size + 1 < w3.heap.size := (by omega); have : w2.heap.size < w3.heap.size := (by omega); (try dsimp only)
  go_wp2_with fail
  have : w.heap.size < w3.heap.size + 1 := by omega
  have : w.heap.size + 1 < w3.heap.size + 1 := by omega
  refine wp_region_keep (t := fun j => j) (al := fun _ => false) (loud := fun _ => false)
    (R := fun j v u w' => match j with
      | 0 => v = ZV x
      | 1 => v = .bool true
      | 2 => v = ZV x
      | 3 => v = .bool true
      | 4 => v = .bool false
      | 5 => v = .bool false
      | 6 => v = ZV y
      | 7 => v = .bool true
      | 8 => v = ZV y
      | 9 => v = .bool true
      | 10 => v = .bool false
      | 11 => v = .bool false
      | _ => True) (by kernel_rfl) (by kernel_rfl) (by kernel_rfl) ?_ ?_ ?_ ?_
  · intro j v u w1_ w2_ h_ hF_ hB_
    (try dsimp only at h_ ⊢)
    split at h_ <;> first | exact h_ | exact NewR.on h_ hB_ | exact HasR.on h_ hB_ | exact IsNum.on h_ hB_ | exact HasNum.on h_ hB_ | exact RHeld.on h_ hB_ | trivial
  · intro j v u w1_ h1_ h_
    cases h1_
  · intro vs
    simp only [putAll, Act.put, List.setIfInBounds_toArray, List.set_cons_zero, List.set_cons_succ, Nat.zero_add, Nat.reduceAdd]
    refine ⟨?_, ?_, ?_, ?_, ?_, ?_, ?_, ?_, ?_, ?_, ?_, ?_, trivial⟩
    · intro w0_ hF_ hd_ Q_ K_ hK_
      have hc0_ := (bcell hF_).1
      have hf0_ := (bcell hF_).2
      have hz0_ := hF_.size; (try simp at hz0_)
      (try simp at hc0_ hf0_)
      have : w.heap.size < w0_.heap.size := by omega
      have : w.heap.size + 1 < w0_.heap.size := by omega
      have : w2.heap.size < w0_.heap.size := by omega
      have : w3.heap.size < w0_.heap.size := by omega
      simp only [DepsR, Region.binds, Nat.zero_add, Nat.reduceAdd, true_implies, Bool.false_eq_true, false_implies, and_true, true_and, BEq.rfl, reduceCtorEq] at hd_
      go_simp
      exact hK_.out _ _ _ (by first | rfl | (simp only [Act.put, List.setIfInBounds_toArray, List.set_cons_zero, List.set_cons_succ, hd_]; done) | (simp only [Act.put, List.setIfInBounds_toArray, List.set_cons_zero, List.set_cons_succ, hd_]; rfl)) (Below.refl _ _) rfl (fun h => by cases h)
    · intro w0_ hF_ hd_ Q_ K_ hK_
      have hc0_ := (bcell hF_).1
      have hf0_ := (bcell hF_).2
      have hz0_ := hF_.size; (try simp at hz0_)
      (try simp at hc0_ hf0_)
      have : w.heap.size < w0_.heap.size := by omega
      have : w.heap.size + 1 < w0_.heap.size := by omega
      have : w2.heap.size < w0_.heap.size := by omega
      have : w3.heap.size < w0_.heap.size := by omega
      simp only [DepsR, Region.binds, Nat.zero_add, Nat.reduceAdd, true_implies, Bool.false_eq_true, false_implies, and_true, true_and, BEq.rfl, reduceCtorEq] at hd_
      go_simp
      refine (G1.out _).mono ?_
      rintro e_ w1_ ⟨rfl, hb_⟩
      exact hK_.out _ _ _ (by first | rfl | (simp only [Act.put, List.setIfInBounds_toArray, List.set_cons_zero, List.set_cons_succ, hd_]; done) | (simp only [Act.put, List.setIfInBounds_toArray, List.set_cons_zero, List.set_cons_succ, hd_]; rfl)) hb_ rfl (fun h => by cases h)
    · intro w0_ hF_ hd_ Q_ K_ hK_
      have hc0_ := (bcell hF_).1
      have hf0_ := (bcell hF_).2
      have hz0_ := hF_.size; (try simp at hz0_)
      (try simp at hc0_ hf0_)
      have : w.heap.size < w0_.heap.size := by omega
      have : w.heap.size + 1 < w0_.heap.size := by omega
      have : w2.heap.size < w0_.heap.size := by omega
      have : w3.heap.size < w0_.heap.size := by omega
      simp only [DepsR, Region.binds, Nat.zero_add, Nat.reduceAdd, true_implies, Bool.false_eq_true, false_implies, and_true, true_and, BEq.rfl, reduceCtorEq] at hd_
      go_simp
      exact hK_.out _ _ _ (by first | rfl | (simp only [Act.put, List.setIfInBounds_toArray, List.set_cons_zero, List.set_cons_succ, hd_]; done) | (simp only [Act.put, List.setIfInBounds_toArray, List.set_cons_zero, List.set_cons_succ, hd_]; rfl)) (Below.refl _ _) rfl (fun h => by cases h)
    · intro w0_ hF_ hd_ Q_ K_ hK_
      have hc0_ := (bcell hF_).1
      have hf0_ := (bcell hF_).2
      have hz0_ := hF_.size; (try simp at hz0_)
      (try simp at hc0_ hf0_)
      have : w.heap.size < w0_.heap.size := by omega
      have : w.heap.size + 1 < w0_.heap.size := by omega
      have : w2.heap.size < w0_.heap.size := by omega
      have : w3.heap.size < w0_.heap.size := by omega
      simp only [DepsR, Region.binds, Nat.zero_add, Nat.reduceAdd, true_implies, Bool.false_eq_true, false_implies, and_true, true_and, BEq.rfl, reduceCtorEq] at hd_
      go_simp
      refine (RG1.out _).mono ?_
      rintro e_ w1_ ⟨rfl, hb_⟩
      exact hK_.out _ _ _ (by first | rfl | (simp only [Act.put, List.setIfInBounds_toArray, List.set_cons_zero, List.set_cons_succ, hd_]; done) | (simp only [Act.put, List.setIfInBounds_toArray, List.set_cons_zero, List.set_cons_succ, hd_]; rfl)) hb_ rfl (fun h => by cases h)
    · intro w0_ hF_ hd_ Q_ K_ hK_
      have hc0_ := (bcell hF_).1
      have hf0_ := (bcell hF_).2
      have hz0_ := hF_.size; (try simp at hz0_)
      (try simp at hc0_ hf0_)
      have : w.heap.size < w0_.heap.size := by omega
      have : w.heap.size + 1 < w0_.heap.size := by omega
      have : w2.heap.size < w0_.heap.size := by omega
      have : w3.heap.size < w0_.heap.size := by omega
      simp only [DepsR, Region.binds, Nat.zero_add, Nat.reduceAdd, true_implies, Bool.false_eq_true, false_implies, and_true, true_and, BEq.rfl, reduceCtorEq] at hd_
      go_simp
      exact hK_.out _ _ _ (by first | rfl | (simp only [Act.put, List.setIfInBounds_toArray, List.set_cons_zero, List.set_cons_succ, hd_]; done) | (simp only [Act.put, List.setIfInBounds_toArray, List.set_cons_zero, List.set_cons_succ, hd_]; rfl)) (Below.refl _ _) rfl (fun h => by cases h)
    · intro w0_ hF_ hd_ Q_ K_ hK_
      have hc0_ := (bcell hF_).1
      have hf0_ := (bcell hF_).2
      have hz0_ := hF_.size; (try simp at hz0_)
      (try simp at hc0_ hf0_)
      have : w.heap.size < w0_.heap.size := by omega
      have : w.heap.size + 1 < w0_.heap.size := by omega
      have : w2.heap.size < w0_.heap.size := by omega
      have : w3.heap.size < w0_.heap.size := by omega
      simp only [DepsR, Region.binds, Nat.zero_add, Nat.reduceAdd, true_implies, Bool.false_eq_true, false_implies, and_true, true_and, BEq.rfl, reduceCtorEq] at hd_
      go_simp
      exact hK_.out _ _ _ (by first | rfl | (simp only [Act.put, List.setIfInBounds_toArray, List.set_cons_zero, List.set_cons_succ, hd_]; done) | (simp only [Act.put, List.setIfInBounds_toArray, List.set_cons_zero, List.set_cons_succ, hd_]; rfl)) (Below.refl _ _) rfl (fun h => by cases h)
    · intro w0_ hF_ hd_ Q_ K_ hK_
      have hc0_ := (bcell hF_).1
      have hf0_ := (bcell hF_).2
      have hz0_ := hF_.size; (try simp at hz0_)
      (try simp at hc0_ hf0_)
      have : w.heap.size < w0_.heap.size := by omega
      have : w.heap.size + 1 < w0_.heap.size := by omega
      have : w2.heap.size < w0_.heap.size := by omega
      have : w3.heap.size < w0_.heap.size := by omega
      simp only [DepsR, Region.binds, Nat.zero_add, Nat.reduceAdd, true_implies, Bool.false_eq_true, false_implies, and_true, true_and, BEq.rfl, reduceCtorEq] at hd_
      go_simp
      exact hK_.out _ _ _ (by first | rfl | (simp only [Act.put, List.setIfInBounds_toArray, List.set_cons_zero, List.set_cons_succ, hd_]; done) | (simp only [Act.put, List.setIfInBounds_toArray, List.set_cons_zero, List.set_cons_succ, hd_]; rfl)) (Below.refl _ _) rfl (fun h => by cases h)
    · intro w0_ hF_ hd_ Q_ K_ hK_
      have hc0_ := (bcell hF_).1
      have hf0_ := (bcell hF_).2
      have hz0_ := hF_.size; (try simp at hz0_)
      (try simp at hc0_ hf0_)
      have : w.heap.size < w0_.heap.size := by omega
      have : w.heap.size + 1 < w0_.heap.size := by omega
      have : w2.heap.size < w0_.heap.size := by omega
      have : w3.heap.size < w0_.heap.size := by omega
      simp only [DepsR, Region.binds, Nat.zero_add, Nat.reduceAdd, true_implies, Bool.false_eq_true, false_implies, and_true, true_and, BEq.rfl, reduceCtorEq] at hd_
      go_simp
      refine (G2.out _).mono ?_
      rintro e_ w1_ ⟨rfl, hb_⟩
      exact hK_.out _ _ _ (by first | rfl | (simp only [Act.put, List.setIfInBounds_toArray, List.set_cons_zero, List.set_cons_succ, hd_]; done) | (simp only [Act.put, List.setIfInBounds_toArray, List.set_cons_zero, List.set_cons_succ, hd_]; rfl)) hb_ rfl (fun h => by cases h)
    · intro w0_ hF_ hd_ Q_ K_ hK_
      have hc0_ := (bcell hF_).1
      have hf0_ := (bcell hF_).2
      have hz0_ := hF_.size; (try simp at hz0_)
      (try simp at hc0_ hf0_)
      have : w.heap.size < w0_.heap.size := by omega
      have : w.heap.size + 1 < w0_.heap.size := by omega
      have : w2.heap.size < w0_.heap.size := by omega
      have : w3.heap.size < w0_.heap.size := by omega
      simp only [DepsR, Region.binds, Nat.zero_add, Nat.reduceAdd, true_implies, Bool.false_eq_true, false_implies, and_true, true_and, BEq.rfl, reduceCtorEq] at hd_
      go_simp
      exact hK_.out _ _ _ (by first | rfl | (simp only [Act.put, List.setIfInBounds_toArray, List.set_cons_zero, List.set_cons_succ, hd_]; done) | (simp only [Act.put, List.setIfInBounds_toArray, List.set_cons_zero, List.set_cons_succ, hd_]; rfl)) (Below.refl _ _) rfl (fun h => by cases h)
    · intro w0_ hF_ hd_ Q_ K_ hK_
      have hc0_ := (bcell hF_).1
      have hf0_ := (bcell hF_).2
      have hz0_ := hF_.size; (try simp at hz0_)
      (try simp at hc0_ hf0_)
      have : w.heap.size < w0_.heap.size := by omega
      have : w.heap.size + 1 < w0_.heap.size := by omega
      have : w2.heap.size < w0_.heap.size := by omega
      have : w3.heap.size < w0_.heap.size := by omega
      simp only [DepsR, Region.binds, Nat.zero_add, Nat.reduceAdd, true_implies, Bool.false_eq_true, false_implies, and_true, true_and, BEq.rfl, reduceCtorEq] at hd_
      go_simp
      refine (RG2.out _).mono ?_
      rintro e_ w1_ ⟨rfl, hb_⟩
      exact hK_.out _ _ _ (by first | rfl | (simp only [Act.put, List.setIfInBounds_toArray, List.set_cons_zero, List.set_cons_succ, hd_]; done) | (simp only [Act.put, List.setIfInBounds_toArray, List.set_cons_zero, List.set_cons_succ, hd_]; rfl)) hb_ rfl (fun h => by cases h)
    · intro w0_ hF_ hd_ Q_ K_ hK_
      have hc0_ := (bcell hF_).1
      have hf0_ := (bcell hF_).2
      have hz0_ := hF_.size; (try simp at hz0_)
      (try simp at hc0_ hf0_)
      have : w.heap.size < w0_.heap.size := by omega
      have : w.heap.size + 1 < w0_.heap.size := by omega
      have : w2.heap.size < w0_.heap.size := by omega
      have : w3.heap.size < w0_.heap.size := by omega
      simp only [DepsR, Region.binds, Nat.zero_add, Nat.reduceAdd, true_implies, Bool.false_eq_true, false_implies, and_true, true_and, BEq.rfl, reduceCtorEq] at hd_
      go_simp
      exact hK_.out _ _ _ (by first | rfl | (simp only [Act.put, List.setIfInBounds_toArray, List.set_cons_zero, List.set_cons_succ, hd_]; done) | (simp only [Act.put, List.setIfInBounds_toArray, List.set_cons_zero, List.set_cons_succ, hd_]; rfl)) (Below.refl _ _) rfl (fun h => by cases h)
    · intro w0_ hF_ hd_ Q_ K_ hK_
      have hc0_ := (bcell hF_).1
      have hf0_ := (bcell hF_).2
      have hz0_ := hF_.size; (try simp at hz0_)
      (try simp at hc0_ hf0_)
      have : w.heap.size < w0_.heap.size := by omega
      have : w.heap.size + 1 < w0_.heap.size := by omega
      have : w2.heap.size < w0_.heap.size := by omega
      have : w3.heap.size < w0_.heap.size := by omega
      simp only [DepsR, Region.binds, Nat.zero_add, Nat.reduceAdd, true_implies, Bool.false_eq_true, false_implies, and_true, true_and, BEq.rfl, reduceCtorEq] at hd_
      go_simp
      exact hK_.out _ _ _ (by first | rfl | (simp only [Act.put, List.setIfInBounds_toArray, List.set_cons_zero, List.set_cons_succ, hd_]; done) | (simp only [Act.put, List.setIfInBounds_toArray, List.set_cons_zero, List.set_cons_succ, hd_]; rfl)) (Below.refl _ _) rfl (fun h => by cases h)
  · intro vs w4 hBw4 hA_ hD_
    simp only [AllR, Nat.zero_add, Nat.reduceAdd, and_true] at hA_
    obtain ⟨r0_, r1_, r2_, r3_, r4_, r5_, r6_, r7_, r8_, r9_, r10_, r11_⟩ := hA_
    clear hD_
    simp only [putAll, Act.put, List.setIfInBounds_toArray, List.set_cons_zero, List.set_cons_succ, Nat.zero_add, Nat.reduceAdd, r0_, r1_, r2_, r3_, r4_, r5_, r6_, r7_, r8_, r9_, r10_, r11_]
    clear r0_ r1_ r2_ r3_ r4_ r5_ r6_ r7_ r8_ r9_ r10_ r11_
    obtain ⟨hcw4, hfw4⟩ := bcell hBw4; (try simp only [World.size_drew, World.cell?_drew, World.frozen?_drew] at hcw4 hfw4); have hzw4 := hBw4.size; (try simp at hzw4)
    have : w.heap.size < w4.heap.size := by omega
    have : w.heap.size + 1 < w4.heap.size := by omega
    have : w2.heap.size < w4.heap.size := by omega
    have : w3.heap.size < w4.heap.size := by omega
    go_wp2_with fail; refine (G1.out _).mono ?_; rintro ew5 w5 ⟨rfl, hbw5⟩; obtain ⟨hcw5, hfw5⟩ := bcell hbw5; (try simp only [World.size_drew, World.cell?_drew, World.frozen?_drew] at hcw5 hfw5); have hzw5 := hbw5.size; (try simp at hzw5); have : w.heap.size < w5.heap.size := (by omega); have : w.heap.size + 1 < w5.heap.size := (by omega); have : w2.heap.size < w5.heap.size := (by omega); have : w3.heap.size < w5.heap.size := (by omega); (try dsimp only)
    go_wp2_with fail; refine (G2.out _).mono ?_; rintro ew6 w6 ⟨rfl, hbw6⟩; obtain ⟨hcw6, hfw6⟩ := bcell hbw6; (try simp only [World.size_drew, World.cell?_drew, World.frozen?_drew] at hcw6 hfw6); have hzw6 := hbw6.size; (try simp at hzw6); have : w.heap.size < w6.heap.size := (by omega); have : w.heap.size + 1 < w6.heap.size := (by omega); have : w2.heap.size < w6.heap.size := (by omega); have : w3.heap.size < w6.heap.size := (by omega); (try dsimp only)
    go_wp2_with fail
    refine wp_region_keep (t := fun j => match j with | 6 => 4 | 7 => 5 | k => k) (al := fun j => match j with | 4 => true | 5 => true | _ => false) (loud := fun j => match j with | 6 => true | 7 => true | _ => false)
      (R := fun j v u w' => match j with
        | 0 => v = ZV x
        | 1 => IsNum w' v (negZ x) x.natAbs
        | 2 => v = ZV y
        | 3 => IsNum w' v (negZ y) y.natAbs
        | 4 => NewR (w6.heap.size) 35 2 v w'
        | 5 => NewR (w6.heap.size) 35 2 v w'
        | 6 => HasNum u (negZ x) (x.natAbs) w'
        | 7 => HasNum u (negZ y) (y.natAbs) w'
        | _ => True) (by kernel_rfl) (by kernel_rfl) (by kernel_rfl) ?_ ?_ ?_ ?_
    · intro j v u w1_ w2_ h_ hF_ hB_
      (try dsimp only at h_ ⊢)
      split at h_ <;> first | exact h_ | exact NewR.on h_ hB_ | exact HasR.on h_ hB_ | exact IsNum.on h_ hB_ | exact HasNum.on h_ hB_ | exact RHeld.on h_ hB_ | trivial
    · intro j v u w1_ h1_ h_
      (try dsimp only at h1_ h_)
      split at h1_ <;> first | exact NewR.ptr h_ | (cases h1_)
    · intro vs
      simp only [putAll, Act.put, List.setIfInBounds_toArray, List.set_cons_zero, List.set_cons_succ, Nat.zero_add, Nat.reduceAdd]
      refine ⟨?_, ?_, ?_, ?_, ?_, ?_, ?_, ?_, trivial⟩
      · intro w0_ hF_ hd_ Q_ K_ hK_
        have hc0_ := (bcell hF_).1
        have hf0_ := (bcell hF_).2
        have hz0_ := hF_.size; (try simp at hz0_)
        (try simp at hc0_ hf0_)
        have : w.heap.size < w0_.heap.size := by omega
        have : w.heap.size + 1 < w0_.heap.size := by omega
        have : w2.heap.size < w0_.heap.size := by omega
        have : w3.heap.size < w0_.heap.size := by omega
        simp only [DepsR, Region.binds, Nat.zero_add, Nat.reduceAdd, true_implies, Bool.false_eq_true, false_implies, and_true, true_and, BEq.rfl, reduceCtorEq] at hd_
        go_simp
        exact hK_.out _ _ _ (by first | rfl | (simp only [Act.put, List.setIfInBounds_toArray, List.set_cons_zero, List.set_cons_succ, hd_]; done) | (simp only [Act.put, List.setIfInBounds_toArray, List.set_cons_zero, List.set_cons_succ, hd_]; rfl)) (Below.refl _ _) rfl (fun h => by cases h)
      · intro w0_ hF_ hd_ Q_ K_ hK_
        have hc0_ := (bcell hF_).1
        have hf0_ := (bcell hF_).2
        have hz0_ := hF_.size; (try simp at hz0_)
        (try simp at hc0_ hf0_)
        have : w.heap.size < w0_.heap.size := by omega
        have : w.heap.size + 1 < w0_.heap.size := by omega
        have : w2.heap.size < w0_.heap.size := by omega
        have : w3.heap.size < w0_.heap.size := by omega
        simp only [DepsR, Region.binds, Nat.zero_add, Nat.reduceAdd, true_implies, Bool.false_eq_true, false_implies, and_true, true_and, BEq.rfl, reduceCtorEq] at hd_
        go_simp
        refine (O1.out _).mono ?_
        rintro e_ w1_ ⟨v_, rfl, hr_, hb_⟩
        exact hK_.out _ _ _ (by first | rfl | (simp only [Act.put, List.setIfInBounds_toArray, List.set_cons_zero, List.set_cons_succ, hd_]; done) | (simp only [Act.put, List.setIfInBounds_toArray, List.set_cons_zero, List.set_cons_succ, hd_]; rfl)) hb_ hr_ (fun h => by cases h)
      · intro w0_ hF_ hd_ Q_ K_ hK_
        have hc0_ := (bcell hF_).1
        have hf0_ := (bcell hF_).2
        have hz0_ := hF_.size; (try simp at hz0_)
        (try simp at hc0_ hf0_)
        have : w.heap.size < w0_.heap.size := by omega
        have : w.heap.size + 1 < w0_.heap.size := by omega
        have : w2.heap.size < w0_.heap.size := by omega
        have : w3.heap.size < w0_.heap.size := by omega
        simp only [DepsR, Region.binds, Nat.zero_add, Nat.reduceAdd, true_implies, Bool.false_eq_true, false_implies, and_true, true_and, BEq.rfl, reduceCtorEq] at hd_
        go_simp
        exact hK_.out _ _ _ (by first | rfl | (simp only [Act.put, List.setIfInBounds_toArray, List.set_cons_zero, List.set_cons_succ, hd_]; done) | (simp only [Act.put, List.setIfInBounds_toArray, List.set_cons_zero, List.set_cons_succ, hd_]; rfl)) (Below.refl _ _) rfl (fun h => by cases h)
      · intro w0_ hF_ hd_ Q_ K_ hK_
        have hc0_ := (bcell hF_).1
        have hf0_ := (bcell hF_).2
        have hz0_ := hF_.size; (try simp at hz0_)
        (try simp at hc0_ hf0_)
        have : w.heap.size < w0_.heap.size := by omega
        have : w.heap.size + 1 < w0_.heap.size := by omega
        have : w2.heap.size < w0_.heap.size := by omega
        have : w3.heap.size < w0_.heap.size := by omega
        simp only [DepsR, Region.binds, Nat.zero_add, Nat.reduceAdd, true_implies, Bool.false_eq_true, false_implies, and_true, true_and, BEq.rfl, reduceCtorEq] at hd_
        go_simp
        refine (O2.out _).mono ?_
        rintro e_ w1_ ⟨v_, rfl, hr_, hb_⟩
        exact hK_.out _ _ _ (by first | rfl | (simp only [Act.put, List.setIfInBounds_toArray, List.set_cons_zero, List.set_cons_succ, hd_]; done) | (simp only [Act.put, List.setIfInBounds_toArray, List.set_cons_zero, List.set_cons_succ, hd_]; rfl)) hb_ hr_ (fun h => by cases h)
      · intro w0_ hF_ hd_ Q_ K_ hK_
        have hc0_ := (bcell hF_).1
        have hf0_ := (bcell hF_).2
        have hz0_ := hF_.size; (try simp at hz0_)
        (try simp at hc0_ hf0_)
        have : w.heap.size < w0_.heap.size := by omega
        have : w.heap.size + 1 < w0_.heap.size := by omega
        have : w2.heap.size < w0_.heap.size := by omega
        have : w3.heap.size < w0_.heap.size := by omega
        simp only [DepsR, Region.binds, Nat.zero_add, Nat.reduceAdd, true_implies, Bool.false_eq_true, false_implies, and_true, true_and, BEq.rfl, reduceCtorEq] at hd_
        go_simp
        exact hK_.out _ _ _ (by first | rfl | (simp only [Act.put, List.setIfInBounds_toArray, List.set_cons_zero, List.set_cons_succ, hd_]; done) | (simp only [Act.put, List.setIfInBounds_toArray, List.set_cons_zero, List.set_cons_succ, hd_]; rfl)) ((Below.refl _ _).alloc (Nat.le_refl _) _) ⟨_, _, rfl, by omega, rfl, Lies.fresh _ _ _⟩ (fun _ => ⟨_, rfl, Nat.le_refl _⟩)
      · intro w0_ hF_ hd_ Q_ K_ hK_
        have hc0_ := (bcell hF_).1
        have hf0_ := (bcell hF_).2
        have hz0_ := hF_.size; (try simp at hz0_)
        (try simp at hc0_ hf0_)
        have : w.heap.size < w0_.heap.size := by omega
        have : w.heap.size + 1 < w0_.heap.size := by omega
        have : w2.heap.size < w0_.heap.size := by omega
        have : w3.heap.size < w0_.heap.size := by omega
        simp only [DepsR, Region.binds, Nat.zero_add, Nat.reduceAdd, true_implies, Bool.false_eq_true, false_implies, and_true, true_and, BEq.rfl, reduceCtorEq] at hd_
        go_simp
        exact hK_.out _ _ _ (by first | rfl | (simp only [Act.put, List.setIfInBounds_toArray, List.set_cons_zero, List.set_cons_succ, hd_]; done) | (simp only [Act.put, List.setIfInBounds_toArray, List.set_cons_zero, List.set_cons_succ, hd_]; rfl)) ((Below.refl _ _).alloc (Nat.le_refl _) _) ⟨_, _, rfl, by omega, rfl, Lies.fresh _ _ _⟩ (fun _ => ⟨_, rfl, Nat.le_refl _⟩)
      · intro w0_ hF_ hd_ Q_ K_ hK_
        have hc0_ := (bcell hF_).1
        have hf0_ := (bcell hF_).2
        have hz0_ := hF_.size; (try simp at hz0_)
        (try simp at hc0_ hf0_)
        have : w.heap.size < w0_.heap.size := by omega
        have : w.heap.size + 1 < w0_.heap.size := by omega
        have : w2.heap.size < w0_.heap.size := by omega
        have : w3.heap.size < w0_.heap.size := by omega
        simp only [DepsR, Region.binds, Nat.zero_add, Nat.reduceAdd, true_implies, Bool.false_eq_true, false_implies, and_true, true_and, BEq.rfl, reduceCtorEq] at hd_
        obtain ⟨b_, cs_, hv_, hB_, hn_, hl_⟩ : NewR (w6.heap.size) 35 2 (vs 4) w0_ := by simp only [hd_]
        obtain ⟨A_, c_, hw_, hI_⟩ : IsNum w0_ (vs 1) (negZ x) (x.natAbs) := by simp only [hd_]
        obtain ⟨c0_, c1_, rfl⟩ := size2 hn_
        obtain ⟨k0_, k1_, f0_, f1_⟩ := hl_.cells2
        go_simp
        refine hK_.out _ undef _ (by first | rfl | (simp only [Act.put, List.setIfInBounds_toArray, List.set_cons_zero, List.set_cons_succ, hd_, hv_, hw_]; done) | (simp only [Act.put, List.setIfInBounds_toArray, List.set_cons_zero, List.set_cons_succ, hd_, hv_, hw_]; rfl)) ⟨?_, fun j_ hj_ hd2_ h_ => ?_⟩ ⟨b_, A_, c_, by simpa using hv_, hl_.put2 _ _, (hI_.far hl_ (by decide) 0 _).far (hl_.put 0 _) (by decide) 1 _⟩ (fun h => by cases h)
        · refine Below.setCell ?_ (by simp; omega) _; refine Below.setCell ?_ (by simp; omega) _; exact hF_
        · (try dsimp only at h_ hd2_ ⊢)
          split at h_ <;> first | exact h_ | exact ⟨b_, _, by simpa using hv_, hB_, rfl, hl_.put2 _ _⟩ | (exact NewR.far2 h_ hv_ (hd2_ rfl rfl (by decide)) _ _) | (exact HasR.far2 h_ hv_ (hd2_ rfl rfl (by decide)) _ _) | (exact HasNum.far2 h_ hl_ hv_ (hd2_ rfl rfl (by decide)) _ _) | (exact IsNum.put2 h_ hl_ _ _) | (exact RHeld.put2 h_ hl_ _ _) | trivial
      · intro w0_ hF_ hd_ Q_ K_ hK_
        have hc0_ := (bcell hF_).1
        have hf0_ := (bcell hF_).2
        have hz0_ := hF_.size; (try simp at hz0_)
        (try simp at hc0_ hf0_)
        have : w.heap.size < w0_.heap.size := by omega
        have : w.heap.size + 1 < w0_.heap.size := by omega
        have : w2.heap.size < w0_.heap.size := by omega
        have : w3.heap.size < w0_.heap.size := by omega
        simp only [DepsR, Region.binds, Nat.zero_add, Nat.reduceAdd, true_implies, Bool.false_eq_true, false_implies, and_true, true_and, BEq.rfl, reduceCtorEq] at hd_
        obtain ⟨b_, cs_, hv_, hB_, hn_, hl_⟩ : NewR (w6.heap.size) 35 2 (vs 5) w0_ := by simp only [hd_]
        obtain ⟨A_, c_, hw_, hI_⟩ : IsNum w0_ (vs 3) (negZ y) (y.natAbs) := by simp only [hd_]
        obtain ⟨c0_, c1_, rfl⟩ := size2 hn_
        obtain ⟨k0_, k1_, f0_, f1_⟩ := hl_.cells2
        go_simp
        refine hK_.out _ undef _ (by first | rfl | (simp only [Act.put, List.setIfInBounds_toArray, List.set_cons_zero, List.set_cons_succ, hd_, hv_, hw_]; done) | (simp only [Act.put, List.setIfInBounds_toArray, List.set_cons_zero, List.set_cons_succ, hd_, hv_, hw_]; rfl)) ⟨?_, fun j_ hj_ hd2_ h_ => ?_⟩ ⟨b_, A_, c_, by simpa using hv_, hl_.put2 _ _, (hI_.far hl_ (by decide) 0 _).far (hl_.put 0 _) (by decide) 1 _⟩ (fun h => by cases h)
        · refine Below.setCell ?_ (by simp; omega) _; refine Below.setCell ?_ (by simp; omega) _; exact hF_
        · (try dsimp only at h_ hd2_ ⊢)
          split at h_ <;> first | exact h_ | exact ⟨b_, _, by simpa using hv_, hB_, rfl, hl_.put2 _ _⟩ | (exact NewR.far2 h_ hv_ (hd2_ rfl rfl (by decide)) _ _) | (exact HasR.far2 h_ hv_ (hd2_ rfl rfl (by decide)) _ _) | (exact HasNum.far2 h_ hl_ hv_ (hd2_ rfl rfl (by decide)) _ _) | (exact IsNum.put2 h_ hl_ _ _) | (exact RHeld.put2 h_ hl_ _ _) | trivial
    · intro vs w7 hBw7 hA_ hD_
      simp only [AllR, Nat.zero_add, Nat.reduceAdd, and_true] at hA_
      obtain ⟨r0_, r1_, r2_, r3_, r4_, r5_, r6_, r7_⟩ := hA_
      obtain ⟨b4w7, A4w7, c4w7, e4_, l4, hI4w7⟩ := r6_
      obtain ⟨b_, cs_, e_, hb4, n_, l_⟩ := r4_
      obtain rfl : b4w7 = b_ := by have := e_.symm.trans e4_; simpa using this.symm
      clear e_ n_ l_
      obtain ⟨b5w7, A5w7, c5w7, e5_, l5, hI5w7⟩ := r7_
      obtain ⟨b_, cs_, e_, hb5, n_, l_⟩ := r5_
      obtain rfl : b5w7 = b_ := by have := e_.symm.trans e5_; simpa using this.symm
      clear e_ n_ l_
      have : b5w7 ≠ b4w7 := fun h_ => hD_ 5 4 rfl rfl (by decide) (by decide) (by decide) (by rw [e5_, e4_, h_])
      clear hD_
      simp only [putAll, Act.put, List.setIfInBounds_toArray, List.set_cons_zero, List.set_cons_succ, Nat.zero_add, Nat.reduceAdd, r0_, r2_, e4_, e5_]
      clear r0_ r2_ e4_ e5_
      obtain ⟨hcw7, hfw7⟩ := bcell hBw7; (try simp only [World.size_drew, World.cell?_drew, World.frozen?_drew] at hcw7 hfw7); have hzw7 := hBw7.size; (try simp at hzw7)
      have : w.heap.size < w7.heap.size := by omega
      have : w.heap.size + 1 < w7.heap.size := by omega
      have : w2.heap.size < w7.heap.size := by omega
      have : w3.heap.size < w7.heap.size := by omega
      obtain ⟨k4_0, k4_1, f4_0, f4_1⟩ := l4.cells2
      have : b4w7 < w7.heap.size := l4.lt
      have HI4w7 := Lib.hid hI4w7; clear hI4w7
      obtain ⟨k5_0, k5_1, f5_0, f5_1⟩ := l5.cells2
      have : b5w7 < w7.heap.size := l5.lt
      have HI5w7 := Lib.hid hI5w7; clear hI5w7
      go_wp2_with fail
      refine (RA.out _ _ _ ⟨A4w7, c4w7, rfl, HI4w7.out⟩ ⟨A5w7, c5w7, rfl, HI5w7.out⟩).mono ?_
      rintro e8 w8 ⟨v8, rfl, ⟨A8, c8, rfl, hI8⟩, hbw8⟩
      obtain ⟨hcw8, hfw8⟩ := bcell hbw8
      have hzw8 := hbw8.size
      have HI8 := Lib.hid hI8; clear hI8
      have : w.heap.size < w8.heap.size := by omega
      have : w.heap.size + 1 < w8.heap.size := by omega
      have : w2.heap.size < w8.heap.size := by omega
      have : w3.heap.size < w8.heap.size := by omega
      have : b4w7 < w8.heap.size := by omega
      have : b5w7 < w8.heap.size := by omega
      go_wp2_with fail
      have : w.heap.size < w8.heap.size + 1 := by omega
      have : w.heap.size + 1 < w8.heap.size + 1 := by omega
      have : w2.heap.size < w8.heap.size + 1 := by omega
      have : w3.heap.size < w8.heap.size + 1 := by omega
      have : b4w7 < w8.heap.size + 1 := by omega
      have : b5w7 < w8.heap.size + 1 := by omega
      have hB78 : ∀ o : Obj, Below w7.heap.size w7 (w8.alloc o) := fun o => hbw8.alloc hbw8.size o
      have hB88 : ∀ o : Obj, Below w8.heap.size w8 (w8.alloc o) := fun o => (Below.refl _ _).alloc (Nat.le_refl _) o
      refine wp_region_keep (t := fun j => match j with | 8 => 7 | k => k) (al := fun j => match j with | 7 => true | _ => false) (loud := fun j => match j with | 8 => true | _ => false)
        (R := fun j v u w' => match j with
          | 0 => v = .agg #[.bool (negZ x), .slice A4w7 (dig x.natAbs).length c4w7]
          | 1 => v = .agg #[.bool (negZ y), .slice A5w7 (dig y.natAbs).length c5w7]
          | 2 => IsNum w' v ny' my'
          | 3 => RHeld v (negZ d) d.natAbs k2 w'
          | 4 => RHeld v (negZ d) d.natAbs k2 w'
          | 5 => IsNum w' v (negZ d) d.natAbs
          | 6 => v = .int .i64 (k2 : Int)
          | 7 => NewR (w8.heap.size + 1) 35 2 v w'
          | 8 => HasNum u (negZ d) (d.natAbs) w'
          | 9 => v = .int .i64 (k2 : Int)
          | _ => True) (by kernel_rfl) (by kernel_rfl) (by kernel_rfl) ?_ ?_ ?_ ?_
      · intro j v u w1_ w2_ h_ hF_ hB_
        (try dsimp only at h_ ⊢)
        split at h_ <;> first | exact h_ | exact NewR.on h_ hB_ | exact HasR.on h_ hB_ | exact IsNum.on h_ hB_ | exact HasNum.on h_ hB_ | exact RHeld.on h_ hB_ | trivial
      · intro j v u w1_ h1_ h_
        (try dsimp only at h1_ h_)
        split at h1_ <;> first | exact NewR.ptr h_ | (cases h1_)
      · intro vs
        simp only [putAll, Act.put, List.setIfInBounds_toArray, List.set_cons_zero, List.set_cons_succ, Nat.zero_add, Nat.reduceAdd]
        refine ⟨?_, ?_, ?_, ?_, ?_, ?_, ?_, ?_, ?_, ?_, trivial⟩
        · intro w0_ hF_ hd_ Q_ K_ hK_
          have hc0_ := (bcell hF_).1
          have hf0_ := (bcell hF_).2
          have hz0_ := hF_.size; (try simp at hz0_)
          (try simp at hc0_ hf0_)
          have : w.heap.size < w0_.heap.size := by omega
          have : w.heap.size + 1 < w0_.heap.size := by omega
          have : w2.heap.size < w0_.heap.size := by omega
          have : w3.heap.size < w0_.heap.size := by omega
          have : w8.heap.size < w0_.heap.size := by omega
          have : b4w7 < w0_.heap.size := by omega
          have : b5w7 < w0_.heap.size := by omega
          simp only [DepsR, Region.binds, Nat.zero_add, Nat.reduceAdd, true_implies, Bool.false_eq_true, false_implies, and_true, true_and, BEq.rfl, reduceCtorEq] at hd_
          go_simp
          exact hK_.out _ _ _ (by first | rfl | (simp only [Act.put, List.setIfInBounds_toArray, List.set_cons_zero, List.set_cons_succ, hd_]; done) | (simp only [Act.put, List.setIfInBounds_toArray, List.set_cons_zero, List.set_cons_succ, hd_]; rfl)) (Below.refl _ _) rfl (fun h => by cases h)
        · intro w0_ hF_ hd_ Q_ K_ hK_
          have hc0_ := (bcell hF_).1
          have hf0_ := (bcell hF_).2
          have hz0_ := hF_.size; (try simp at hz0_)
          (try simp at hc0_ hf0_)
          have : w.heap.size < w0_.heap.size := by omega
          have : w.heap.size + 1 < w0_.heap.size := by omega
          have : w2.heap.size < w0_.heap.size := by omega
          have : w3.heap.size < w0_.heap.size := by omega
          have : w8.heap.size < w0_.heap.size := by omega
          have : b4w7 < w0_.heap.size := by omega
          have : b5w7 < w0_.heap.size := by omega
          simp only [DepsR, Region.binds, Nat.zero_add, Nat.reduceAdd, true_implies, Bool.false_eq_true, false_implies, and_true, true_and, BEq.rfl, reduceCtorEq] at hd_
          go_simp
          exact hK_.out _ _ _ (by first | rfl | (simp only [Act.put, List.setIfInBounds_toArray, List.set_cons_zero, List.set_cons_succ, hd_]; done) | (simp only [Act.put, List.setIfInBounds_toArray, List.set_cons_zero, List.set_cons_succ, hd_]; rfl)) (Below.refl _ _) rfl (fun h => by cases h)
        · intro w0_ hF_ hd_ Q_ K_ hK_
          have hc0_ := (bcell hF_).1
          have hf0_ := (bcell hF_).2
          have hz0_ := hF_.size; (try simp at hz0_)
          (try simp at hc0_ hf0_)
          have : w.heap.size < w0_.heap.size := by omega
          have : w.heap.size + 1 < w0_.heap.size := by omega
          have : w2.heap.size < w0_.heap.size := by omega
          have : w3.heap.size < w0_.heap.size := by omega
          have : w8.heap.size < w0_.heap.size := by omega
          have : b4w7 < w0_.heap.size := by omega
          have : b5w7 < w0_.heap.size := by omega
          simp only [DepsR, Region.binds, Nat.zero_add, Nat.reduceAdd, true_implies, Bool.false_eq_true, false_implies, and_true, true_and, BEq.rfl, reduceCtorEq] at hd_
          go_simp
          refine (RN.out _ _ ⟨A5w7, c5w7, rfl, HI5w7.out.on (below_on (hB78 _) hF_)⟩).mono ?_
          rintro e_ w1_ ⟨v_, rfl, hr_, hb_⟩
          exact hK_.out _ _ _ (by first | rfl | (simp only [Act.put, List.setIfInBounds_toArray, List.set_cons_zero, List.set_cons_succ, hd_]; done) | (simp only [Act.put, List.setIfInBounds_toArray, List.set_cons_zero, List.set_cons_succ, hd_]; rfl)) hb_ hr_ (fun h => by cases h)
        · intro w0_ hF_ hd_ Q_ K_ hK_
          have hc0_ := (bcell hF_).1
          have hf0_ := (bcell hF_).2
          have hz0_ := hF_.size; (try simp at hz0_)
          (try simp at hc0_ hf0_)
          have : w.heap.size < w0_.heap.size := by omega
          have : w.heap.size + 1 < w0_.heap.size := by omega
          have : w2.heap.size < w0_.heap.size := by omega
          have : w3.heap.size < w0_.heap.size := by omega
          have : w8.heap.size < w0_.heap.size := by omega
          have : b4w7 < w0_.heap.size := by omega
          have : b5w7 < w0_.heap.size := by omega
          simp only [DepsR, Region.binds, Nat.zero_add, Nat.reduceAdd, true_implies, Bool.false_eq_true, false_implies, and_true, true_and, BEq.rfl, reduceCtorEq] at hd_
          go_simp
          refine (RA2.out _ _ _ ⟨A4w7, c4w7, rfl, HI4w7.out.on (below_on (hB78 _) hF_)⟩ (by first | exact hd_.2.1 | exact hd_.1 | exact hd_.2.2.1)).mono ?_
          rintro e_ w1_ ⟨v_, rfl, hr_, hb_⟩
          exact hK_.out _ _ _ (by first | rfl | (simp only [Act.put, List.setIfInBounds_toArray, List.set_cons_zero, List.set_cons_succ, hd_]; done)) hb_ ⟨v_, rfl, hr_⟩ (fun h => by cases h)
        · intro w0_ hF_ hd_ Q_ K_ hK_
          have hc0_ := (bcell hF_).1
          have hf0_ := (bcell hF_).2
          have hz0_ := hF_.size; (try simp at hz0_)
          (try simp at hc0_ hf0_)
          have : w.heap.size < w0_.heap.size := by omega
          have : w.heap.size + 1 < w0_.heap.size := by omega
          have : w2.heap.size < w0_.heap.size := by omega
          have : w3.heap.size < w0_.heap.size := by omega
          have : w8.heap.size < w0_.heap.size := by omega
          have : b4w7 < w0_.heap.size := by omega
          have : b5w7 < w0_.heap.size := by omega
          simp only [DepsR, Region.binds, Nat.zero_add, Nat.reduceAdd, true_implies, Bool.false_eq_true, false_implies, and_true, true_and, BEq.rfl, reduceCtorEq] at hd_
          obtain ⟨v_, hv_, hr_⟩ := hd_
          go_simp
          exact hK_.out _ _ _ (by first | rfl | (simp only [Act.put, List.setIfInBounds_toArray, List.set_cons_zero, List.set_cons_succ, hv_]; done)) (Below.refl _ _) ⟨v_, rfl, hr_⟩ (fun h => by cases h)
        · intro w0_ hF_ hd_ Q_ K_ hK_
          have hc0_ := (bcell hF_).1
          have hf0_ := (bcell hF_).2
          have hz0_ := hF_.size; (try simp at hz0_)
          (try simp at hc0_ hf0_)
          have : w.heap.size < w0_.heap.size := by omega
          have : w.heap.size + 1 < w0_.heap.size := by omega
          have : w2.heap.size < w0_.heap.size := by omega
          have : w3.heap.size < w0_.heap.size := by omega
          have : w8.heap.size < w0_.heap.size := by omega
          have : b4w7 < w0_.heap.size := by omega
          have : b5w7 < w0_.heap.size := by omega
          simp only [DepsR, Region.binds, Nat.zero_add, Nat.reduceAdd, true_implies, Bool.false_eq_true, false_implies, and_true, true_and, BEq.rfl, reduceCtorEq] at hd_
          obtain ⟨v_, hv_, hr_⟩ := hd_
          go_simp
          exact hK_.out _ _ _ (by first | rfl | (simp only [Act.put, List.setIfInBounds_toArray, List.set_cons_zero, List.set_cons_succ, hv_]; done)) (Below.refl _ _) hr_ (fun h => by cases h)
        · intro w0_ hF_ hd_ Q_ K_ hK_
          have hc0_ := (bcell hF_).1
          have hf0_ := (bcell hF_).2
          have hz0_ := hF_.size; (try simp at hz0_)
          (try simp at hc0_ hf0_)
          have : w.heap.size < w0_.heap.size := by omega
          have : w.heap.size + 1 < w0_.heap.size := by omega
          have : w2.heap.size < w0_.heap.size := by omega
          have : w3.heap.size < w0_.heap.size := by omega
          have : w8.heap.size < w0_.heap.size := by omega
          have : b4w7 < w0_.heap.size := by omega
          have : b5w7 < w0_.heap.size := by omega
          simp only [DepsR, Region.binds, Nat.zero_add, Nat.reduceAdd, true_implies, Bool.false_eq_true, false_implies, and_true, true_and, BEq.rfl, reduceCtorEq] at hd_
          obtain ⟨v_, hv_, hr_⟩ := hd_.1
          go_simp
          exact hK_.out _ _ _ (by first | rfl | (simp only [Act.put, List.setIfInBounds_toArray, List.set_cons_zero, List.set_cons_succ, hv_]; done)) (Below.refl _ _) rfl (fun h => by cases h)
        · intro w0_ hF_ hd_ Q_ K_ hK_
          have hc0_ := (bcell hF_).1
          have hf0_ := (bcell hF_).2
          have hz0_ := hF_.size; (try simp at hz0_)
          (try simp at hc0_ hf0_)
          have : w.heap.size < w0_.heap.size := by omega
          have : w.heap.size + 1 < w0_.heap.size := by omega
          have : w2.heap.size < w0_.heap.size := by omega
          have : w3.heap.size < w0_.heap.size := by omega
          have : w8.heap.size < w0_.heap.size := by omega
          have : b4w7 < w0_.heap.size := by omega
          have : b5w7 < w0_.heap.size := by omega
          simp only [DepsR, Region.binds, Nat.zero_add, Nat.reduceAdd, true_implies, Bool.false_eq_true, false_implies, and_true, true_and, BEq.rfl, reduceCtorEq] at hd_
          go_simp
          exact hK_.out _ _ _ (by first | rfl | (simp only [Act.put, List.setIfInBounds_toArray, List.set_cons_zero, List.set_cons_succ, hd_]; done) | (simp only [Act.put, List.setIfInBounds_toArray, List.set_cons_zero, List.set_cons_succ, hd_]; rfl)) ((Below.refl _ _).alloc (Nat.le_refl _) _) ⟨_, _, rfl, by omega, rfl, Lies.fresh _ _ _⟩ (fun _ => ⟨_, rfl, Nat.le_refl _⟩)
        · intro w0_ hF_ hd_ Q_ K_ hK_
          have hc0_ := (bcell hF_).1
          have hf0_ := (bcell hF_).2
          have hz0_ := hF_.size; (try simp at hz0_)
          (try simp at hc0_ hf0_)
          have : w.heap.size < w0_.heap.size := by omega
          have : w.heap.size + 1 < w0_.heap.size := by omega
          have : w2.heap.size < w0_.heap.size := by omega
          have : w3.heap.size < w0_.heap.size := by omega
          have : w8.heap.size < w0_.heap.size := by omega
          have : b4w7 < w0_.heap.size := by omega
          have : b5w7 < w0_.heap.size := by omega
          simp only [DepsR, Region.binds, Nat.zero_add, Nat.reduceAdd, true_implies, Bool.false_eq_true, false_implies, and_true, true_and, BEq.rfl, reduceCtorEq] at hd_
          obtain ⟨b_, cs_, hv_, hB_, hn_, hl_⟩ : NewR (w8.heap.size + 1) 35 2 (vs 7) w0_ := by simp only [hd_]
          obtain ⟨A_, c_, hw_, hI_⟩ : IsNum w0_ (vs 5) (negZ d) (d.natAbs) := by simp only [hd_]
          obtain ⟨c0_, c1_, rfl⟩ := size2 hn_
          obtain ⟨k0_, k1_, f0_, f1_⟩ := hl_.cells2
          go_simp
          refine hK_.out _ undef _ (by first | rfl | (simp only [Act.put, List.setIfInBounds_toArray, List.set_cons_zero, List.set_cons_succ, hd_, hv_, hw_]; done) | (simp only [Act.put, List.setIfInBounds_toArray, List.set_cons_zero, List.set_cons_succ, hd_, hv_, hw_]; rfl)) ⟨?_, fun j_ hj_ hd2_ h_ => ?_⟩ ⟨b_, A_, c_, by simpa using hv_, hl_.put2 _ _, (hI_.far hl_ (by decide) 0 _).far (hl_.put 0 _) (by decide) 1 _⟩ (fun h => by cases h)
          · refine Below.setCell ?_ (by simp; omega) _; refine Below.setCell ?_ (by simp; omega) _; exact hF_
          · (try dsimp only at h_ hd2_ ⊢)
            split at h_ <;> first | exact h_ | exact ⟨b_, _, by simpa using hv_, hB_, rfl, hl_.put2 _ _⟩ | (exact NewR.far2 h_ hv_ (hd2_ rfl rfl (by decide)) _ _) | (exact HasR.far2 h_ hv_ (hd2_ rfl rfl (by decide)) _ _) | (exact HasNum.far2 h_ hl_ hv_ (hd2_ rfl rfl (by decide)) _ _) | (exact IsNum.put2 h_ hl_ _ _) | (exact RHeld.put2 h_ hl_ _ _) | trivial
        · intro w0_ hF_ hd_ Q_ K_ hK_
          have hc0_ := (bcell hF_).1
          have hf0_ := (bcell hF_).2
          have hz0_ := hF_.size; (try simp at hz0_)
          (try simp at hc0_ hf0_)
          have : w.heap.size < w0_.heap.size := by omega
          have : w.heap.size + 1 < w0_.heap.size := by omega
          have : w2.heap.size < w0_.heap.size := by omega
          have : w3.heap.size < w0_.heap.size := by omega
          have : w8.heap.size < w0_.heap.size := by omega
          have : b4w7 < w0_.heap.size := by omega
          have : b5w7 < w0_.heap.size := by omega
          simp only [DepsR, Region.binds, Nat.zero_add, Nat.reduceAdd, true_implies, Bool.false_eq_true, false_implies, and_true, true_and, BEq.rfl, reduceCtorEq] at hd_
          go_simp
          exact hK_.out _ _ _ (by first | rfl | (simp only [Act.put, List.setIfInBounds_toArray, List.set_cons_zero, List.set_cons_succ, hd_]; done) | (simp only [Act.put, List.setIfInBounds_toArray, List.set_cons_zero, List.set_cons_succ, hd_]; rfl)) (Below.refl _ _) rfl (fun h => by cases h)
      · intro vs w9 hBw9 hA_ hD_
        simp only [AllR, Nat.zero_add, Nat.reduceAdd, and_true] at hA_
        obtain ⟨r0_, r1_, r2_, r3_, r4_, r5_, r6_, r7_, r8_, r9_⟩ := hA_
        obtain ⟨b7w9, A7w9, c7w9, e7_, l7, hI7w9⟩ := r8_
        obtain ⟨b_, cs_, e_, hb7, n_, l_⟩ := r7_
        obtain rfl : b7w9 = b_ := by have := e_.symm.trans e7_; simpa using this.symm
        clear e_ n_ l_
        clear hD_
        simp only [putAll, Act.put, List.setIfInBounds_toArray, List.set_cons_zero, List.set_cons_succ, Nat.zero_add, Nat.reduceAdd, r0_, r1_, r6_, r9_, e7_]
        clear r0_ r1_ r6_ r9_ e7_
        obtain ⟨hcw9, hfw9⟩ := bcell hBw9; (try simp only [World.size_drew, World.cell?_drew, World.frozen?_drew] at hcw9 hfw9); have hzw9 := hBw9.size; (try simp at hzw9)
        have : w.heap.size < w9.heap.size := by omega
        have : w.heap.size + 1 < w9.heap.size := by omega
        have : w2.heap.size < w9.heap.size := by omega
        have : w3.heap.size < w9.heap.size := by omega
        have : w8.heap.size < w9.heap.size := by omega
        have : b4w7 < w9.heap.size := by omega
        have : b5w7 < w9.heap.size := by omega
        obtain ⟨k7_0, k7_1, f7_0, f7_1⟩ := l7.cells2
        have : b7w9 < w9.heap.size := l7.lt
        have HI7w9 := Lib.hid hI7w9; clear hI7w9
        have hB79 : Below w7.heap.size w7 w9 := below_on (hB78 _) hBw9
        have hB89 : Below w8.heap.size w8 w9 := below_on (hB88 _) hBw9
        go_wp2_with fail
        refine wp_region_keep (t := fun j => j) (al := fun _ => false) (loud := fun _ => false)
          (R := fun j v u w' => match j with
            | 0 => v = ZV s
            | 1 => v = errV k1
            | 2 => v = .agg #[.bool (negZ s), .slice A8 (dig s.natAbs).length c8]
            | 3 => v = .int .i64 (k1 : Int)
            | 4 => v = .bool true
            | 5 => v = .bool true
            | 6 => v = ZV d
            | 7 => v = errV k2
            | 8 => v = .agg #[.bool (negZ d), .slice A7w9 (dig d.natAbs).length c7w9]
            | 9 => v = .int .i64 (k2 : Int)
            | 10 => v = .bool true
            | 11 => v = .bool true
            | 12 => v = .bool true
            | 13 => v = ZV x
            | 14 => v = ZV y
            | 15 => v = .int .i64 cz
            | 16 => v = .agg #[.bool (negZ x), .slice A4w7 (dig x.natAbs).length c4w7]
            | 17 => v = .agg #[.bool (negZ y), .slice A5w7 (dig y.natAbs).length c5w7]
            | 18 => v = .int .i64 cz
            | 19 => v = .bool true
            | 20 => v = .bool true
            | 21 => v = .bool true
            | _ => True) (by kernel_rfl) (by kernel_rfl) (by kernel_rfl) ?_ ?_ ?_ ?_
        · intro j v u w1_ w2_ h_ hF_ hB_
          (try dsimp only at h_ ⊢)
          split at h_ <;> first | exact h_ | exact NewR.on h_ hB_ | exact HasR.on h_ hB_ | exact IsNum.on h_ hB_ | exact HasNum.on h_ hB_ | exact RHeld.on h_ hB_ | trivial
        · intro j v u w1_ h1_ h_
          cases h1_
        · intro vs
          simp only [putAll, Act.put, List.setIfInBounds_toArray, List.set_cons_zero, List.set_cons_succ, Nat.zero_add, Nat.reduceAdd]
          refine ⟨?_, ?_, ?_, ?_, ?_, ?_, ?_, ?_, ?_, ?_, ?_, ?_, ?_, ?_, ?_, ?_, ?_, ?_, ?_, ?_, ?_, ?_, trivial⟩
          · intro w0_ hF_ hd_ Q_ K_ hK_
            have hc0_ := (bcell hF_).1
            have hf0_ := (bcell hF_).2
            have hz0_ := hF_.size; (try simp at hz0_)
            (try simp at hc0_ hf0_)
            have : w.heap.size < w0_.heap.size := by omega
            have : w.heap.size + 1 < w0_.heap.size := by omega
            have : w2.heap.size < w0_.heap.size := by omega
            have : w3.heap.size < w0_.heap.size := by omega
            have : w8.heap.size < w0_.heap.size := by omega
            have : b4w7 < w0_.heap.size := by omega
            have : b5w7 < w0_.heap.size := by omega
            have : b7w9 < w0_.heap.size := by omega
            simp only [DepsR, Region.binds, Nat.zero_add, Nat.reduceAdd, true_implies, Bool.false_eq_true, false_implies, and_true, true_and, BEq.rfl, reduceCtorEq] at hd_
            go_simp
            exact hK_.out _ _ _ (by first | rfl | (simp only [Act.put, List.setIfInBounds_toArray, List.set_cons_zero, List.set_cons_succ, hd_]; done) | (simp only [Act.put, List.setIfInBounds_toArray, List.set_cons_zero, List.set_cons_succ, hd_]; rfl)) (Below.refl _ _) rfl (fun h => by cases h)
          · intro w0_ hF_ hd_ Q_ K_ hK_
            have hc0_ := (bcell hF_).1
            have hf0_ := (bcell hF_).2
            have hz0_ := hF_.size; (try simp at hz0_)
            (try simp at hc0_ hf0_)
            have : w.heap.size < w0_.heap.size := by omega
            have : w.heap.size + 1 < w0_.heap.size := by omega
            have : w2.heap.size < w0_.heap.size := by omega
            have : w3.heap.size < w0_.heap.size := by omega
            have : w8.heap.size < w0_.heap.size := by omega
            have : b4w7 < w0_.heap.size := by omega
            have : b5w7 < w0_.heap.size := by omega
            have : b7w9 < w0_.heap.size := by omega
            simp only [DepsR, Region.binds, Nat.zero_add, Nat.reduceAdd, true_implies, Bool.false_eq_true, false_implies, and_true, true_and, BEq.rfl, reduceCtorEq] at hd_
            go_simp
            exact hK_.out _ _ _ (by first | rfl | (simp only [Act.put, List.setIfInBounds_toArray, List.set_cons_zero, List.set_cons_succ, hd_]; done) | (simp only [Act.put, List.setIfInBounds_toArray, List.set_cons_zero, List.set_cons_succ, hd_]; rfl)) (Below.refl _ _) rfl (fun h => by cases h)
          · intro w0_ hF_ hd_ Q_ K_ hK_
            have hc0_ := (bcell hF_).1
            have hf0_ := (bcell hF_).2
            have hz0_ := hF_.size; (try simp at hz0_)
            (try simp at hc0_ hf0_)
            have : w.heap.size < w0_.heap.size := by omega
            have : w.heap.size + 1 < w0_.heap.size := by omega
            have : w2.heap.size < w0_.heap.size := by omega
            have : w3.heap.size < w0_.heap.size := by omega
            have : w8.heap.size < w0_.heap.size := by omega
            have : b4w7 < w0_.heap.size := by omega
            have : b5w7 < w0_.heap.size := by omega
            have : b7w9 < w0_.heap.size := by omega
            simp only [DepsR, Region.binds, Nat.zero_add, Nat.reduceAdd, true_implies, Bool.false_eq_true, false_implies, and_true, true_and, BEq.rfl, reduceCtorEq] at hd_
            go_simp
            exact hK_.out _ _ _ (by first | rfl | (simp only [Act.put, List.setIfInBounds_toArray, List.set_cons_zero, List.set_cons_succ, hd_]; done) | (simp only [Act.put, List.setIfInBounds_toArray, List.set_cons_zero, List.set_cons_succ, hd_]; rfl)) (Below.refl _ _) rfl (fun h => by cases h)
          · intro w0_ hF_ hd_ Q_ K_ hK_
            have hc0_ := (bcell hF_).1
            have hf0_ := (bcell hF_).2
            have hz0_ := hF_.size; (try simp at hz0_)
            (try simp at hc0_ hf0_)
            have : w.heap.size < w0_.heap.size := by omega
            have : w.heap.size + 1 < w0_.heap.size := by omega
            have : w2.heap.size < w0_.heap.size := by omega
            have : w3.heap.size < w0_.heap.size := by omega
            have : w8.heap.size < w0_.heap.size := by omega
            have : b4w7 < w0_.heap.size := by omega
            have : b5w7 < w0_.heap.size := by omega
            have : b7w9 < w0_.heap.size := by omega
            simp only [DepsR, Region.binds, Nat.zero_add, Nat.reduceAdd, true_implies, Bool.false_eq_true, false_implies, and_true, true_and, BEq.rfl, reduceCtorEq] at hd_
            go_simp
            exact hK_.out _ _ _ (by first | rfl | (simp only [Act.put, List.setIfInBounds_toArray, List.set_cons_zero, List.set_cons_succ, hd_]; done) | (simp only [Act.put, List.setIfInBounds_toArray, List.set_cons_zero, List.set_cons_succ, hd_]; rfl)) (Below.refl _ _) rfl (fun h => by cases h)
          · intro w0_ hF_ hd_ Q_ K_ hK_
            have hc0_ := (bcell hF_).1
            have hf0_ := (bcell hF_).2
            have hz0_ := hF_.size; (try simp at hz0_)
            (try simp at hc0_ hf0_)
            have : w.heap.size < w0_.heap.size := by omega
            have : w.heap.size + 1 < w0_.heap.size := by omega
            have : w2.heap.size < w0_.heap.size := by omega
            have : w3.heap.size < w0_.heap.size := by omega
            have : w8.heap.size < w0_.heap.size := by omega
            have : b4w7 < w0_.heap.size := by omega
            have : b5w7 < w0_.heap.size := by omega
            have : b7w9 < w0_.heap.size := by omega
            simp only [DepsR, Region.binds, Nat.zero_add, Nat.reduceAdd, true_implies, Bool.false_eq_true, false_implies, and_true, true_and, BEq.rfl, reduceCtorEq] at hd_
            go_simp
            refine (H1.out _ _ ⟨A8, c8, rfl, HI8.out.on (below_on hB89 hF_)⟩).mono ?_
            rintro e_ w1_ ⟨rfl, hb_⟩
            exact hK_.out _ _ _ (by first | rfl | (simp only [Act.put, List.setIfInBounds_toArray, List.set_cons_zero, List.set_cons_succ, hd_]; done) | (simp only [Act.put, List.setIfInBounds_toArray, List.set_cons_zero, List.set_cons_succ, hd_]; rfl)) hb_ rfl (fun h => by cases h)
          · intro w0_ hF_ hd_ Q_ K_ hK_
            have hc0_ := (bcell hF_).1
            have hf0_ := (bcell hF_).2
            have hz0_ := hF_.size; (try simp at hz0_)
            (try simp at hc0_ hf0_)
            have : w.heap.size < w0_.heap.size := by omega
            have : w.heap.size + 1 < w0_.heap.size := by omega
            have : w2.heap.size < w0_.heap.size := by omega
            have : w3.heap.size < w0_.heap.size := by omega
            have : w8.heap.size < w0_.heap.size := by omega
            have : b4w7 < w0_.heap.size := by omega
            have : b5w7 < w0_.heap.size := by omega
            have : b7w9 < w0_.heap.size := by omega
            simp only [DepsR, Region.binds, Nat.zero_add, Nat.reduceAdd, true_implies, Bool.false_eq_true, false_implies, and_true, true_and, BEq.rfl, reduceCtorEq] at hd_
            go_simp
            exact hK_.out _ _ _ (by first | rfl | (simp only [Act.put, List.setIfInBounds_toArray, List.set_cons_zero, List.set_cons_succ, hd_]; done) | (simp only [Act.put, List.setIfInBounds_toArray, List.set_cons_zero, List.set_cons_succ, hd_]; rfl)) (Below.refl _ _) rfl (fun h => by cases h)
          · intro w0_ hF_ hd_ Q_ K_ hK_
            have hc0_ := (bcell hF_).1
            have hf0_ := (bcell hF_).2
            have hz0_ := hF_.size; (try simp at hz0_)
            (try simp at hc0_ hf0_)
            have : w.heap.size < w0_.heap.size := by omega
            have : w.heap.size + 1 < w0_.heap.size := by omega
            have : w2.heap.size < w0_.heap.size := by omega
            have : w3.heap.size < w0_.heap.size := by omega
            have : w8.heap.size < w0_.heap.size := by omega
            have : b4w7 < w0_.heap.size := by omega
            have : b5w7 < w0_.heap.size := by omega
            have : b7w9 < w0_.heap.size := by omega
            simp only [DepsR, Region.binds, Nat.zero_add, Nat.reduceAdd, true_implies, Bool.false_eq_true, false_implies, and_true, true_and, BEq.rfl, reduceCtorEq] at hd_
            go_simp
            exact hK_.out _ _ _ (by first | rfl | (simp only [Act.put, List.setIfInBounds_toArray, List.set_cons_zero, List.set_cons_succ, hd_]; done) | (simp only [Act.put, List.setIfInBounds_toArray, List.set_cons_zero, List.set_cons_succ, hd_]; rfl)) (Below.refl _ _) rfl (fun h => by cases h)
          · intro w0_ hF_ hd_ Q_ K_ hK_
            have hc0_ := (bcell hF_).1
            have hf0_ := (bcell hF_).2
            have hz0_ := hF_.size; (try simp at hz0_)
            (try simp at hc0_ hf0_)
            have : w.heap.size < w0_.heap.size := by omega
            have : w.heap.size + 1 < w0_.heap.size := by omega
            have : w2.heap.size < w0_.heap.size := by omega
            have : w3.heap.size < w0_.heap.size := by omega
            have : w8.heap.size < w0_.heap.size := by omega
            have : b4w7 < w0_.heap.size := by omega
            have : b5w7 < w0_.heap.size := by omega
            have : b7w9 < w0_.heap.size := by omega
            simp only [DepsR, Region.binds, Nat.zero_add, Nat.reduceAdd, true_implies, Bool.false_eq_true, false_implies, and_true, true_and, BEq.rfl, reduceCtorEq] at hd_
            go_simp
            exact hK_.out _ _ _ (by first | rfl | (simp only [Act.put, List.setIfInBounds_toArray, List.set_cons_zero, List.set_cons_succ, hd_]; done) | (simp only [Act.put, List.setIfInBounds_toArray, List.set_cons_zero, List.set_cons_succ, hd_]; rfl)) (Below.refl _ _) rfl (fun h => by cases h)
          · intro w0_ hF_ hd_ Q_ K_ hK_
            have hc0_ := (bcell hF_).1
            have hf0_ := (bcell hF_).2
            have hz0_ := hF_.size; (try simp at hz0_)
            (try simp at hc0_ hf0_)
            have : w.heap.size < w0_.heap.size := by omega
            have : w.heap.size + 1 < w0_.heap.size := by omega
            have : w2.heap.size < w0_.heap.size := by omega
            have : w3.heap.size < w0_.heap.size := by omega
            have : w8.heap.size < w0_.heap.size := by omega
            have : b4w7 < w0_.heap.size := by omega
            have : b5w7 < w0_.heap.size := by omega
            have : b7w9 < w0_.heap.size := by omega
            simp only [DepsR, Region.binds, Nat.zero_add, Nat.reduceAdd, true_implies, Bool.false_eq_true, false_implies, and_true, true_and, BEq.rfl, reduceCtorEq] at hd_
            go_simp
            exact hK_.out _ _ _ (by first | rfl | (simp only [Act.put, List.setIfInBounds_toArray, List.set_cons_zero, List.set_cons_succ, hd_]; done) | (simp only [Act.put, List.setIfInBounds_toArray, List.set_cons_zero, List.set_cons_succ, hd_]; rfl)) (Below.refl _ _) rfl (fun h => by cases h)
          · intro w0_ hF_ hd_ Q_ K_ hK_
            have hc0_ := (bcell hF_).1
            have hf0_ := (bcell hF_).2
            have hz0_ := hF_.size; (try simp at hz0_)
            (try simp at hc0_ hf0_)
            have : w.heap.size < w0_.heap.size := by omega
            have : w.heap.size + 1 < w0_.heap.size := by omega
            have : w2.heap.size < w0_.heap.size := by omega
            have : w3.heap.size < w0_.heap.size := by omega
            have : w8.heap.size < w0_.heap.size := by omega
            have : b4w7 < w0_.heap.size := by omega
            have : b5w7 < w0_.heap.size := by omega
            have : b7w9 < w0_.heap.size := by omega
            simp only [DepsR, Region.binds, Nat.zero_add, Nat.reduceAdd, true_implies, Bool.false_eq_true, false_implies, and_true, true_and, BEq.rfl, reduceCtorEq] at hd_
            go_simp
            exact hK_.out _ _ _ (by first | rfl | (simp only [Act.put, List.setIfInBounds_toArray, List.set_cons_zero, List.set_cons_succ, hd_]; done) | (simp only [Act.put, List.setIfInBounds_toArray, List.set_cons_zero, List.set_cons_succ, hd_]; rfl)) (Below.refl _ _) rfl (fun h => by cases h)
          · intro w0_ hF_ hd_ Q_ K_ hK_
            have hc0_ := (bcell hF_).1
            have hf0_ := (bcell hF_).2
            have hz0_ := hF_.size; (try simp at hz0_)
            (try simp at hc0_ hf0_)
            have : w.heap.size < w0_.heap.size := by omega
            have : w.heap.size + 1 < w0_.heap.size := by omega
            have : w2.heap.size < w0_.heap.size := by omega
            have : w3.heap.size < w0_.heap.size := by omega
            have : w8.heap.size < w0_.heap.size := by omega
            have : b4w7 < w0_.heap.size := by omega
            have : b5w7 < w0_.heap.size := by omega
            have : b7w9 < w0_.heap.size := by omega
            simp only [DepsR, Region.binds, Nat.zero_add, Nat.reduceAdd, true_implies, Bool.false_eq_true, false_implies, and_true, true_and, BEq.rfl, reduceCtorEq] at hd_
            go_simp
            refine (H2.out _ _ ⟨A7w9, c7w9, rfl, HI7w9.out.on hF_⟩).mono ?_
            rintro e_ w1_ ⟨rfl, hb_⟩
            exact hK_.out _ _ _ (by first | rfl | (simp only [Act.put, List.setIfInBounds_toArray, List.set_cons_zero, List.set_cons_succ, hd_]; done) | (simp only [Act.put, List.setIfInBounds_toArray, List.set_cons_zero, List.set_cons_succ, hd_]; rfl)) hb_ rfl (fun h => by cases h)
          · intro w0_ hF_ hd_ Q_ K_ hK_
            have hc0_ := (bcell hF_).1
            have hf0_ := (bcell hF_).2
            have hz0_ := hF_.size; (try simp at hz0_)
            (try simp at hc0_ hf0_)
            have : w.heap.size < w0_.heap.size := by omega
            have : w.heap.size + 1 < w0_.heap.size := by omega
            have : w2.heap.size < w0_.heap.size := by omega
            have : w3.heap.size < w0_.heap.size := by omega
            have : w8.heap.size < w0_.heap.size := by omega
            have : b4w7 < w0_.heap.size := by omega
            have : b5w7 < w0_.heap.size := by omega
            have : b7w9 < w0_.heap.size := by omega
            simp only [DepsR, Region.binds, Nat.zero_add, Nat.reduceAdd, true_implies, Bool.false_eq_true, false_implies, and_true, true_and, BEq.rfl, reduceCtorEq] at hd_
            go_simp
            exact hK_.out _ _ _ (by first | rfl | (simp only [Act.put, List.setIfInBounds_toArray, List.set_cons_zero, List.set_cons_succ, hd_]; done) | (simp only [Act.put, List.setIfInBounds_toArray, List.set_cons_zero, List.set_cons_succ, hd_]; rfl)) (Below.refl _ _) rfl (fun h => by cases h)
          · intro w0_ hF_ hd_ Q_ K_ hK_
            have hc0_ := (bcell hF_).1
            have hf0_ := (bcell hF_).2
            have hz0_ := hF_.size; (try simp at hz0_)
            (try simp at hc0_ hf0_)
            have : w.heap.size < w0_.heap.size := by omega
            have : w.heap.size + 1 < w0_.heap.size := by omega
            have : w2.heap.size < w0_.heap.size := by omega
            have : w3.heap.size < w0_.heap.size := by omega
            have : w8.heap.size < w0_.heap.size := by omega
            have : b4w7 < w0_.heap.size := by omega
            have : b5w7 < w0_.heap.size := by omega
            have : b7w9 < w0_.heap.size := by omega
            simp only [DepsR, Region.binds, Nat.zero_add, Nat.reduceAdd, true_implies, Bool.false_eq_true, false_implies, and_true, true_and, BEq.rfl, reduceCtorEq] at hd_
            go_simp
            exact hK_.out _ _ _ (by first | rfl | (simp only [Act.put, List.setIfInBounds_toArray, List.set_cons_zero, List.set_cons_succ, hd_]; done) | (simp only [Act.put, List.setIfInBounds_toArray, List.set_cons_zero, List.set_cons_succ, hd_]; rfl)) (Below.refl _ _) rfl (fun h => by cases h)
          · intro w0_ hF_ hd_ Q_ K_ hK_
            have hc0_ := (bcell hF_).1
            have hf0_ := (bcell hF_).2
            have hz0_ := hF_.size; (try simp at hz0_)
            (try simp at hc0_ hf0_)
            have : w.heap.size < w0_.heap.size := by omega
            have : w.heap.size + 1 < w0_.heap.size := by omega
            have : w2.heap.size < w0_.heap.size := by omega
            have : w3.heap.size < w0_.heap.size := by omega
            have : w8.heap.size < w0_.heap.size := by omega
            have : b4w7 < w0_.heap.size := by omega
            have : b5w7 < w0_.heap.size := by omega
            have : b7w9 < w0_.heap.size := by omega
            simp only [DepsR, Region.binds, Nat.zero_add, Nat.reduceAdd, true_implies, Bool.false_eq_true, false_implies, and_true, true_and, BEq.rfl, reduceCtorEq] at hd_
            go_simp
            exact hK_.out _ _ _ (by first | rfl | (simp only [Act.put, List.setIfInBounds_toArray, List.set_cons_zero, List.set_cons_succ, hd_]; done) | (simp only [Act.put, List.setIfInBounds_toArray, List.set_cons_zero, List.set_cons_succ, hd_]; rfl)) (Below.refl _ _) rfl (fun h => by cases h)
          · intro w0_ hF_ hd_ Q_ K_ hK_
            have hc0_ := (bcell hF_).1
            have hf0_ := (bcell hF_).2
            have hz0_ := hF_.size; (try simp at hz0_)
            (try simp at hc0_ hf0_)
            have : w.heap.size < w0_.heap.size := by omega
            have : w.heap.size + 1 < w0_.heap.size := by omega
            have : w2.heap.size < w0_.heap.size := by omega
            have : w3.heap.size < w0_.heap.size := by omega
            have : w8.heap.size < w0_.heap.size := by omega
            have : b4w7 < w0_.heap.size := by omega
            have : b5w7 < w0_.heap.size := by omega
            have : b7w9 < w0_.heap.size := by omega
            simp only [DepsR, Region.binds, Nat.zero_add, Nat.reduceAdd, true_implies, Bool.false_eq_true, false_implies, and_true, true_and, BEq.rfl, reduceCtorEq] at hd_
            go_simp
            exact hK_.out _ _ _ (by first | rfl | (simp only [Act.put, List.setIfInBounds_toArray, List.set_cons_zero, List.set_cons_succ, hd_]; done) | (simp only [Act.put, List.setIfInBounds_toArray, List.set_cons_zero, List.set_cons_succ, hd_]; rfl)) (Below.refl _ _) rfl (fun h => by cases h)
          · intro w0_ hF_ hd_ Q_ K_ hK_
            have hc0_ := (bcell hF_).1
            have hf0_ := (bcell hF_).2
            have hz0_ := hF_.size; (try simp at hz0_)
            (try simp at hc0_ hf0_)
            have : w.heap.size < w0_.heap.size := by omega
            have : w.heap.size + 1 < w0_.heap.size := by omega
            have : w2.heap.size < w0_.heap.size := by omega
            have : w3.heap.size < w0_.heap.size := by omega
            have : w8.heap.size < w0_.heap.size := by omega
            have : b4w7 < w0_.heap.size := by omega
            have : b5w7 < w0_.heap.size := by omega
            have : b7w9 < w0_.heap.size := by omega
            simp only [DepsR, Region.binds, Nat.zero_add, Nat.reduceAdd, true_implies, Bool.false_eq_true, false_implies, and_true, true_and, BEq.rfl, reduceCtorEq] at hd_
            go_simp
            refine (P1.out _).mono ?_
            rintro e_ w1_ ⟨rfl, hb_⟩
            exact hK_.out _ _ _ (by first | rfl | (simp only [Act.put, List.setIfInBounds_toArray, List.set_cons_zero, List.set_cons_succ, hd_]; done) | (simp only [Act.put, List.setIfInBounds_toArray, List.set_cons_zero, List.set_cons_succ, hd_]; rfl)) hb_ rfl (fun h => by cases h)
          · intro w0_ hF_ hd_ Q_ K_ hK_
            have hc0_ := (bcell hF_).1
            have hf0_ := (bcell hF_).2
            have hz0_ := hF_.size; (try simp at hz0_)
            (try simp at hc0_ hf0_)
            have : w.heap.size < w0_.heap.size := by omega
            have : w.heap.size + 1 < w0_.heap.size := by omega
            have : w2.heap.size < w0_.heap.size := by omega
            have : w3.heap.size < w0_.heap.size := by omega
            have : w8.heap.size < w0_.heap.size := by omega
            have : b4w7 < w0_.heap.size := by omega
            have : b5w7 < w0_.heap.size := by omega
            have : b7w9 < w0_.heap.size := by omega
            simp only [DepsR, Region.binds, Nat.zero_add, Nat.reduceAdd, true_implies, Bool.false_eq_true, false_implies, and_true, true_and, BEq.rfl, reduceCtorEq] at hd_
            go_simp
            exact hK_.out _ _ _ (by first | rfl | (simp only [Act.put, List.setIfInBounds_toArray, List.set_cons_zero, List.set_cons_succ, hd_]; done) | (simp only [Act.put, List.setIfInBounds_toArray, List.set_cons_zero, List.set_cons_succ, hd_]; rfl)) (Below.refl _ _) rfl (fun h => by cases h)
          · intro w0_ hF_ hd_ Q_ K_ hK_
            have hc0_ := (bcell hF_).1
            have hf0_ := (bcell hF_).2
            have hz0_ := hF_.size; (try simp at hz0_)
            (try simp at hc0_ hf0_)
            have : w.heap.size < w0_.heap.size := by omega
            have : w.heap.size + 1 < w0_.heap.size := by omega
            have : w2.heap.size < w0_.heap.size := by omega
            have : w3.heap.size < w0_.heap.size := by omega
            have : w8.heap.size < w0_.heap.size := by omega
            have : b4w7 < w0_.heap.size := by omega
            have : b5w7 < w0_.heap.size := by omega
            have : b7w9 < w0_.heap.size := by omega
            simp only [DepsR, Region.binds, Nat.zero_add, Nat.reduceAdd, true_implies, Bool.false_eq_true, false_implies, and_true, true_and, BEq.rfl, reduceCtorEq] at hd_
            go_simp
            exact hK_.out _ _ _ (by first | rfl | (simp only [Act.put, List.setIfInBounds_toArray, List.set_cons_zero, List.set_cons_succ, hd_]; done) | (simp only [Act.put, List.setIfInBounds_toArray, List.set_cons_zero, List.set_cons_succ, hd_]; rfl)) (Below.refl _ _) rfl (fun h => by cases h)
          · intro w0_ hF_ hd_ Q_ K_ hK_
            have hc0_ := (bcell hF_).1
            have hf0_ := (bcell hF_).2
            have hz0_ := hF_.size; (try simp at hz0_)
            (try simp at hc0_ hf0_)
            have : w.heap.size < w0_.heap.size := by omega
            have : w.heap.size + 1 < w0_.heap.size := by omega
            have : w2.heap.size < w0_.heap.size := by omega
            have : w3.heap.size < w0_.heap.size := by omega
            have : w8.heap.size < w0_.heap.size := by omega
            have : b4w7 < w0_.heap.size := by omega
            have : b5w7 < w0_.heap.size := by omega
            have : b7w9 < w0_.heap.size := by omega
            simp only [DepsR, Region.binds, Nat.zero_add, Nat.reduceAdd, true_implies, Bool.false_eq_true, false_implies, and_true, true_and, BEq.rfl, reduceCtorEq] at hd_
            go_simp
            refine (P2.out _ _ _ ⟨A4w7, c4w7, rfl, HI4w7.out.on (below_on hB79 hF_)⟩ ⟨A5w7, c5w7, rfl, HI5w7.out.on (below_on hB79 hF_)⟩).mono ?_
            rintro e_ w1_ ⟨rfl, hb_⟩
            exact hK_.out _ _ _ (by first | rfl | (simp only [Act.put, List.setIfInBounds_toArray, List.set_cons_zero, List.set_cons_succ, hd_]; done) | (simp only [Act.put, List.setIfInBounds_toArray, List.set_cons_zero, List.set_cons_succ, hd_]; rfl)) hb_ rfl (fun h => by cases h)
          · intro w0_ hF_ hd_ Q_ K_ hK_
            have hc0_ := (bcell hF_).1
            have hf0_ := (bcell hF_).2
            have hz0_ := hF_.size; (try simp at hz0_)
            (try simp at hc0_ hf0_)
            have : w.heap.size < w0_.heap.size := by omega
            have : w.heap.size + 1 < w0_.heap.size := by omega
            have : w2.heap.size < w0_.heap.size := by omega
            have : w3.heap.size < w0_.heap.size := by omega
            have : w8.heap.size < w0_.heap.size := by omega
            have : b4w7 < w0_.heap.size := by omega
            have : b5w7 < w0_.heap.size := by omega
            have : b7w9 < w0_.heap.size := by omega
            simp only [DepsR, Region.binds, Nat.zero_add, Nat.reduceAdd, true_implies, Bool.false_eq_true, false_implies, and_true, true_and, BEq.rfl, reduceCtorEq] at hd_
            go_simp
            exact hK_.out _ _ _ (by first | rfl | (simp only [Act.put, List.setIfInBounds_toArray, List.set_cons_zero, List.set_cons_succ, hd_]; done) | (simp only [Act.put, List.setIfInBounds_toArray, List.set_cons_zero, List.set_cons_succ, hd_]; rfl)) (Below.refl _ _) rfl (fun h => by cases h)
          · intro w0_ hF_ hd_ Q_ K_ hK_
            have hc0_ := (bcell hF_).1
            have hf0_ := (bcell hF_).2
            have hz0_ := hF_.size; (try simp at hz0_)
            (try simp at hc0_ hf0_)
            have : w.heap.size < w0_.heap.size := by omega
            have : w.heap.size + 1 < w0_.heap.size := by omega
            have : w2.heap.size < w0_.heap.size := by omega
            have : w3.heap.size < w0_.heap.size := by omega
            have : w8.heap.size < w0_.heap.size := by omega
            have : b4w7 < w0_.heap.size := by omega
            have : b5w7 < w0_.heap.size := by omega
            have : b7w9 < w0_.heap.size := by omega
            simp only [DepsR, Region.binds, Nat.zero_add, Nat.reduceAdd, true_implies, Bool.false_eq_true, false_implies, and_true, true_and, BEq.rfl, reduceCtorEq] at hd_
            go_simp
            exact hK_.out _ _ _ (by first | rfl | (simp only [Act.put, List.setIfInBounds_toArray, List.set_cons_zero, List.set_cons_succ, hd_]; done) | (simp only [Act.put, List.setIfInBounds_toArray, List.set_cons_zero, List.set_cons_succ, hd_]; rfl)) (Below.refl _ _) rfl (fun h => by cases h)
          · intro w0_ hF_ hd_ Q_ K_ hK_
            have hc0_ := (bcell hF_).1
            have hf0_ := (bcell hF_).2
            have hz0_ := hF_.size; (try simp at hz0_)
            (try simp at hc0_ hf0_)
            have : w.heap.size < w0_.heap.size := by omega
            have : w.heap.size + 1 < w0_.heap.size := by omega
            have : w2.heap.size < w0_.heap.size := by omega
            have : w3.heap.size < w0_.heap.size := by omega
            have : w8.heap.size < w0_.heap.size := by omega
            have : b4w7 < w0_.heap.size := by omega
            have : b5w7 < w0_.heap.size := by omega
            have : b7w9 < w0_.heap.size := by omega
            simp only [DepsR, Region.binds, Nat.zero_add, Nat.reduceAdd, true_implies, Bool.false_eq_true, false_implies, and_true, true_and, BEq.rfl, reduceCtorEq] at hd_
            go_simp
            exact hK_.out _ _ _ (by first | rfl | (simp only [Act.put, List.setIfInBounds_toArray, List.set_cons_zero, List.set_cons_succ, hd_]; done) | (simp only [Act.put, List.setIfInBounds_toArray, List.set_cons_zero, List.set_cons_succ, hd_]; rfl)) (Below.refl _ _) rfl (fun h => by cases h)
        · intro vs w10 hBw10 hA_ hD_
          simp only [AllR, Nat.zero_add, Nat.reduceAdd, and_true] at hA_
          obtain ⟨r0_, r1_, r2_, r3_, r4_, r5_, r6_, r7_, r8_, r9_, r10_, r11_, r12_, r13_, r14_, r15_, r16_, r17_, r18_, r19_, r20_, r21_⟩ := hA_
          clear hD_
          simp only [putAll, Act.put, List.setIfInBounds_toArray, List.set_cons_zero, List.set_cons_succ, Nat.zero_add, Nat.reduceAdd, r0_, r1_, r2_, r3_, r4_, r5_, r6_, r7_, r8_, r9_, r10_, r11_, r12_, r13_, r14_, r15_, r16_, r17_, r18_, r19_, r20_, r21_]
          clear r0_ r1_ r2_ r3_ r4_ r5_ r6_ r7_ r8_ r9_ r10_ r11_ r12_ r13_ r14_ r15_ r16_ r17_ r18_ r19_ r20_ r21_
          obtain ⟨hcw10, hfw10⟩ := bcell hBw10; (try simp only [World.size_drew, World.cell?_drew, World.frozen?_drew] at hcw10 hfw10); have hzw10 := hBw10.size; (try simp at hzw10)
          have : w.heap.size < w10.heap.size := by omega
          have : w.heap.size + 1 < w10.heap.size := by omega
          have : w2.heap.size < w10.heap.size := by omega
          have : w3.heap.size < w10.heap.size := by omega
          have : w8.heap.size < w10.heap.size := by omega
          have : b4w7 < w10.heap.size := by omega
          have : b5w7 < w10.heap.size := by omega
          have : b7w9 < w10.heap.size := by omega
          go_wp2
          go_ret
          refine ⟨rfl, ?_⟩
          repeat (first | (with_reducible exact Below.refl _ _) | (with_reducible refine Below.drew ?_) | (refine Below.setCell ?_ (by first | exact Nat.le_refl _ | (simp; done) | (simp; omega) | omega) _) | (refine Below.alloc ?_ (by first | exact Nat.le_refl _ | (simp; done) | (simp; omega) | omega) _) | (refine Below.trans ?_ (Below.mono (by assumption) (by first | exact Nat.le_refl _ | (simp; done) | (simp; omega) | omega))))
end Go.Proofs.Ytanfgolelhmdhaa
