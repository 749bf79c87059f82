/- The walk of CharsetSets. -/
import Derived.Test.YtgigapmoooaaoaaSetO
import Derived.Deep.Cut
import Derived.Deep.CutBlock
import Derived.Deep.CutRange
import Derived.Deep.DeepCutAuto
namespace Go.Proofs.Ytgigapmoooaaoaa
set_option linter.unusedSimpArgs false
set_option linter.unusedVariables false
set_option linter.unnecessarySimpa false
open Go.RowKit

set_option maxRecDepth 100000 in
set_option maxHeartbeats 32000000 in
theorem sets_core (p q r o n : Nat → Bool) (fa fb c n1 n2 : Nat) (x d : Nat) (bl br pc qc : Bool) (w : World) (hM : HM w) (hc : c < 256) (hn1 : n1 ≤ 256) (hn2 : n2 ≤ 256)
    (HA : Hid (∀ W, HM W → Calls Try.prog 8 #[] W fun e w' => e = .returned (.bool true) ∧ Below W.heap.size W w'))
    (R1 : Hid (∀ W, Calls Try.prog 14 #[.int .u8 (fa : Int), .int .u8 (fb : Int)] W fun e w' => e = .returned (setV r) ∧ Below W.heap.size W w'))
    (O1 : Hid (∀ W, Calls Try.prog 15 #[setV p, setV q] W fun e w' => e = .returned (setV o) ∧ Below W.heap.size W w'))
    (N1 : Hid (∀ W, Calls Try.prog 16 #[setV p] W fun e w' => e = .returned (setV n) ∧ Below W.heap.size W w'))
    (N2 : Hid (∀ W, Calls Try.prog 16 #[setV n] W fun e w' => e = .returned (setV p) ∧ Below W.heap.size W w'))
    (H1 : Hid (∀ W, Calls Try.prog 13 #[setV r, .int .u8 (c : Int)] W fun e w' => e = .returned (.bool (bl && br)) ∧ Below W.heap.size W w'))
    (H2 : Hid (∀ W, Calls Try.prog 13 #[setV o, .int .u8 (c : Int)] W fun e w' => e = .returned (.bool (pc || qc)) ∧ Below W.heap.size W w'))
    (H3 : Hid (∀ W, Calls Try.prog 13 #[setV p, .int .u8 (c : Int)] W fun e w' => e = .returned (.bool pc) ∧ Below W.heap.size W w'))
    (H4 : Hid (∀ W, Calls Try.prog 13 #[setV q, .int .u8 (c : Int)] W fun e w' => e = .returned (.bool qc) ∧ Below W.heap.size W w'))
    (H5 : Hid (∀ W, Calls Try.prog 13 #[setV n, .int .u8 (c : Int)] W fun e w' => e = .returned (.bool (!pc)) ∧ Below W.heap.size W w'))
    (C1 : Hid (∀ W, Calls Try.prog 17 #[setV p] W fun e w' => e = .returned (.int .i64 (n1 : Int)) ∧ Below W.heap.size W w'))
    (C2 : Hid (∀ W, Calls Try.prog 17 #[setV n] W fun e w' => e = .returned (.int .i64 (n2 : Int)) ∧ Below W.heap.size W w'))
    (HI : Hid (∀ k : Nat, k < 256 → ∀ W, Calls Try.prog 13 #[setV p, .int .u8 (k : Int)] W fun e w' => e = .returned (.bool (p k)) ∧ Below W.heap.size W w'))
    (HK : Hid (∀ k, cntP p (k + 1) = cntP p k + (if p k = true then 1 else 0))) (HN : Hid (cntP p 256 = n1)) (hnn : n1 + n2 = 256)
    (E1 : ∀ w, (binOp .neq 25 (setV p) (setV p)).run Try.prog w = .ok (.bool false) w)
    (hl : decide (fa ≤ c) = bl) (hr : decide (c ≤ fb) = br)
    (hx : wd p (c / 64) = x) (hd : c % 64 = d) (hbit : (bits BinOp.and IntKind.u64 ((x : Int) / 2 ^ d) 1 == 1) = pc) :
    Calls Try.prog 4 #[setV p, setV q, .int .u8 (fa : Int), .int .u8 (fb : Int), .int .u8 (c : Int)] w fun e w' => e = .returned (.bool true) ∧ Below w.heap.size w w' := by
  go_enter Try.func4, Try.ntmps4
  go_upto_region 1 with fail
  have ra : Row ((w.alloc (.cells (setA p) 25)).alloc (.cells (setA q) 25)) w.heap.size 25 (setA p) := (Row.new w _ _).alloc _
  have rb : Row ((w.alloc (.cells (setA p) 25)).alloc (.cells (setA q) 25)) (w.heap.size + 1) 25 (setA q) := Row.new' (by simp)
  have hB : Below w.heap.size w ((w.alloc (.cells (setA p) 25)).alloc (.cells (setA q) 25)) := by repeat (first | (with_reducible exact Below.refl _ _) | (with_reducible refine Below.drew ?_) | (refine Below.setCell ?_ (by first | exact Nat.le_refl _ | (simp; done) | (simp; omega) | omega) _) | (refine Below.alloc ?_ (by first | exact Nat.le_refl _ | (simp; done) | (simp; omega) | omega) _) | (refine Below.trans ?_ (Below.mono (by assumption) (by first | exact Nat.le_refl _ | (simp; done) | (simp; omega) | omega))))
  generalize ((w.alloc (.cells (setA p) 25)).alloc (.cells (setA q) 25)) = u1 at *
  go_wp2_with fail
  refine (HA.out _ (hM.on hB)).mono ?_; rintro e u2 ⟨rfl, hb2⟩; (try dsimp only)
  have ra := ra.on hb2
  have rb := rb.on hb2
  have hB2 : Below w.heap.size w u2 := hB.trans (hb2.mono hB.size)
  clear hB hb2 hM HA
  obtain ⟨k0, k1, k2, k3, f0, f1, f2, f3, z0⟩ := ra.four
  obtain ⟨m0, m1, m2, m3, g0, g1, g2, g3, y0⟩ := rb.four
  clear f0 f1 f2 f3 g0 g1 g2 g3
  have hs2 := hB2.size
  go_upto_region 3 with fail
  refine wp_region_keep (t := fun j => match j with | 11 => 8 | 12 => 9 | 13 => 10 | k => k) (al := fun j => match j with | 8 => true | 9 => true | 10 => true | _ => false) (loud := fun j => match j with | 11 => true | 12 => true | 13 => true | _ => false)
    (R := fun j v u w' => match j with
      | 0 => v = .int .u8 (fa : Int)
      | 1 => v = .int .u8 (fb : Int)
      | 2 => v = setV r
      | 3 => v = setV p
      | 4 => v = setV q
      | 5 => v = setV o
      | 6 => v = setV p
      | 7 => v = setV n
      | 8 => NewR (u2.heap.size) 25 4 v w'
      | 9 => NewR (u2.heap.size) 25 4 v w'
      | 10 => NewR (u2.heap.size) 25 4 v w'
      | 11 => HasR u 25 #[.int .u64 ((wd r 0 : Nat) : Int), .int .u64 ((wd r 1 : Nat) : Int), .int .u64 ((wd r 2 : Nat) : Int), .int .u64 ((wd r 3 : Nat) : Int)] w'
      | 12 => HasR u 25 #[.int .u64 ((wd o 0 : Nat) : Int), .int .u64 ((wd o 1 : Nat) : Int), .int .u64 ((wd o 2 : Nat) : Int), .int .u64 ((wd o 3 : Nat) : Int)] w'
      | 13 => HasR u 25 #[.int .u64 ((wd n 0 : Nat) : Int), .int .u64 ((wd n 1 : Nat) : Int), .int .u64 ((wd n 2 : Nat) : Int), .int .u64 ((wd n 3 : Nat) : Int)] w'
      | _ => True) (by kernel_rfl) (by kernel_rfl) (by kernel_rfl) ?_ ?_ ?_ ?_
  · intro j v u w1_ w2_ h_ hF_ hB_
    (try dsimp only at h_ ⊢)
    split at h_ <;> first | (with_reducible exact h_) | (with_reducible exact NewR.on h_ hB_) | (with_reducible exact HasR.on h_ hB_) | exact IsNum.on h_ hB_ | exact HasNum.on h_ hB_ | exact RHeld.on h_ hB_ | trivial | exact h_
  · intro j v u w1_ h1_ h_
    (try dsimp only at h1_ h_)
    split at h1_ <;> first | exact NewR.ptr h_ | (cases h1_)
  · intro vs
    simp only [putAll, Act.put, List.setIfInBounds_toArray, List.set_cons_zero, List.set_cons_succ, Nat.zero_add, Nat.reduceAdd]
    refine ⟨?_, ?_, ?_, ?_, ?_, ?_, ?_, ?_, ?_, ?_, ?_, ?_, ?_, ?_, trivial⟩
    · intro w0_ hF_ hd_ Q_ K_ hK_
      have hc0_ := (bcell hF_).1
      have hf0_ := (bcell hF_).2
      have hz0_ := hF_.size; (try simp at hz0_)
      (try simp at hc0_ hf0_)
      have : w.heap.size < w0_.heap.size := by omega
      have : w.heap.size + 1 < w0_.heap.size := by omega
      simp only [DepsR, Region.binds, Nat.zero_add, Nat.reduceAdd, true_implies, Bool.false_eq_true, false_implies, and_true, true_and, BEq.rfl, reduceCtorEq] at hd_
      go_simp
      exact hK_.out _ _ _ (by first | rfl | (simp only [Act.put, List.setIfInBounds_toArray, List.set_cons_zero, List.set_cons_succ, hd_]; done) | (simp only [Act.put, List.setIfInBounds_toArray, List.set_cons_zero, List.set_cons_succ, hd_]; rfl)) (Below.refl _ _) rfl (fun h => by cases h)
    · intro w0_ hF_ hd_ Q_ K_ hK_
      have hc0_ := (bcell hF_).1
      have hf0_ := (bcell hF_).2
      have hz0_ := hF_.size; (try simp at hz0_)
      (try simp at hc0_ hf0_)
      have : w.heap.size < w0_.heap.size := by omega
      have : w.heap.size + 1 < w0_.heap.size := by omega
      simp only [DepsR, Region.binds, Nat.zero_add, Nat.reduceAdd, true_implies, Bool.false_eq_true, false_implies, and_true, true_and, BEq.rfl, reduceCtorEq] at hd_
      go_simp
      exact hK_.out _ _ _ (by first | rfl | (simp only [Act.put, List.setIfInBounds_toArray, List.set_cons_zero, List.set_cons_succ, hd_]; done) | (simp only [Act.put, List.setIfInBounds_toArray, List.set_cons_zero, List.set_cons_succ, hd_]; rfl)) (Below.refl _ _) rfl (fun h => by cases h)
    · intro w0_ hF_ hd_ Q_ K_ hK_
      have hc0_ := (bcell hF_).1
      have hf0_ := (bcell hF_).2
      have hz0_ := hF_.size; (try simp at hz0_)
      (try simp at hc0_ hf0_)
      have : w.heap.size < w0_.heap.size := by omega
      have : w.heap.size + 1 < w0_.heap.size := by omega
      simp only [DepsR, Region.binds, Nat.zero_add, Nat.reduceAdd, true_implies, Bool.false_eq_true, false_implies, and_true, true_and, BEq.rfl, reduceCtorEq] at hd_
      go_simp
      refine (R1.out _).mono ?_
      rintro e_ w1_ ⟨rfl, hb_⟩
      exact hK_.out _ _ _ (by first | rfl | (simp only [Act.put, List.setIfInBounds_toArray, List.set_cons_zero, List.set_cons_succ, hd_]; done) | (simp only [Act.put, List.setIfInBounds_toArray, List.set_cons_zero, List.set_cons_succ, hd_]; rfl)) hb_ rfl (fun h => by cases h)
    · intro w0_ hF_ hd_ Q_ K_ hK_
      have hc0_ := (bcell hF_).1
      have hf0_ := (bcell hF_).2
      have hz0_ := hF_.size; (try simp at hz0_)
      (try simp at hc0_ hf0_)
      have : w.heap.size < w0_.heap.size := by omega
      have : w.heap.size + 1 < w0_.heap.size := by omega
      simp only [DepsR, Region.binds, Nat.zero_add, Nat.reduceAdd, true_implies, Bool.false_eq_true, false_implies, and_true, true_and, BEq.rfl, reduceCtorEq] at hd_
      go_simp
      exact hK_.out _ _ _ (by first | rfl | (simp only [Act.put, List.setIfInBounds_toArray, List.set_cons_zero, List.set_cons_succ, hd_]; done) | (simp only [Act.put, List.setIfInBounds_toArray, List.set_cons_zero, List.set_cons_succ, hd_]; rfl)) (Below.refl _ _) rfl (fun h => by cases h)
    · intro w0_ hF_ hd_ Q_ K_ hK_
      have hc0_ := (bcell hF_).1
      have hf0_ := (bcell hF_).2
      have hz0_ := hF_.size; (try simp at hz0_)
      (try simp at hc0_ hf0_)
      have : w.heap.size < w0_.heap.size := by omega
      have : w.heap.size + 1 < w0_.heap.size := by omega
      simp only [DepsR, Region.binds, Nat.zero_add, Nat.reduceAdd, true_implies, Bool.false_eq_true, false_implies, and_true, true_and, BEq.rfl, reduceCtorEq] at hd_
      go_simp
      exact hK_.out _ _ _ (by first | rfl | (simp only [Act.put, List.setIfInBounds_toArray, List.set_cons_zero, List.set_cons_succ, hd_]; done) | (simp only [Act.put, List.setIfInBounds_toArray, List.set_cons_zero, List.set_cons_succ, hd_]; rfl)) (Below.refl _ _) rfl (fun h => by cases h)
    · intro w0_ hF_ hd_ Q_ K_ hK_
      have hc0_ := (bcell hF_).1
      have hf0_ := (bcell hF_).2
      have hz0_ := hF_.size; (try simp at hz0_)
      (try simp at hc0_ hf0_)
      have : w.heap.size < w0_.heap.size := by omega
      have : w.heap.size + 1 < w0_.heap.size := by omega
      simp only [DepsR, Region.binds, Nat.zero_add, Nat.reduceAdd, true_implies, Bool.false_eq_true, false_implies, and_true, true_and, BEq.rfl, reduceCtorEq] at hd_
      go_simp
      refine (O1.out _).mono ?_
      rintro e_ w1_ ⟨rfl, hb_⟩
      exact hK_.out _ _ _ (by first | rfl | (simp only [Act.put, List.setIfInBounds_toArray, List.set_cons_zero, List.set_cons_succ, hd_]; done) | (simp only [Act.put, List.setIfInBounds_toArray, List.set_cons_zero, List.set_cons_succ, hd_]; rfl)) hb_ rfl (fun h => by cases h)
    · intro w0_ hF_ hd_ Q_ K_ hK_
      have hc0_ := (bcell hF_).1
      have hf0_ := (bcell hF_).2
      have hz0_ := hF_.size; (try simp at hz0_)
      (try simp at hc0_ hf0_)
      have : w.heap.size < w0_.heap.size := by omega
      have : w.heap.size + 1 < w0_.heap.size := by omega
      simp only [DepsR, Region.binds, Nat.zero_add, Nat.reduceAdd, true_implies, Bool.false_eq_true, false_implies, and_true, true_and, BEq.rfl, reduceCtorEq] at hd_
      go_simp
      exact hK_.out _ _ _ (by first | rfl | (simp only [Act.put, List.setIfInBounds_toArray, List.set_cons_zero, List.set_cons_succ, hd_]; done) | (simp only [Act.put, List.setIfInBounds_toArray, List.set_cons_zero, List.set_cons_succ, hd_]; rfl)) (Below.refl _ _) rfl (fun h => by cases h)
    · intro w0_ hF_ hd_ Q_ K_ hK_
      have hc0_ := (bcell hF_).1
      have hf0_ := (bcell hF_).2
      have hz0_ := hF_.size; (try simp at hz0_)
      (try simp at hc0_ hf0_)
      have : w.heap.size < w0_.heap.size := by omega
      have : w.heap.size + 1 < w0_.heap.size := by omega
      simp only [DepsR, Region.binds, Nat.zero_add, Nat.reduceAdd, true_implies, Bool.false_eq_true, false_implies, and_true, true_and, BEq.rfl, reduceCtorEq] at hd_
      go_simp
      refine (N1.out _).mono ?_
      rintro e_ w1_ ⟨rfl, hb_⟩
      exact hK_.out _ _ _ (by first | rfl | (simp only [Act.put, List.setIfInBounds_toArray, List.set_cons_zero, List.set_cons_succ, hd_]; done) | (simp only [Act.put, List.setIfInBounds_toArray, List.set_cons_zero, List.set_cons_succ, hd_]; rfl)) hb_ rfl (fun h => by cases h)
    · intro w0_ hF_ hd_ Q_ K_ hK_
      have hc0_ := (bcell hF_).1
      have hf0_ := (bcell hF_).2
      have hz0_ := hF_.size; (try simp at hz0_)
      (try simp at hc0_ hf0_)
      have : w.heap.size < w0_.heap.size := by omega
      have : w.heap.size + 1 < w0_.heap.size := by omega
      simp only [DepsR, Region.binds, Nat.zero_add, Nat.reduceAdd, true_implies, Bool.false_eq_true, false_implies, and_true, true_and, BEq.rfl, reduceCtorEq] at hd_
      go_simp
      exact hK_.out _ _ _ (by first | rfl | (simp only [Act.put, List.setIfInBounds_toArray, List.set_cons_zero, List.set_cons_succ, hd_]; done) | (simp only [Act.put, List.setIfInBounds_toArray, List.set_cons_zero, List.set_cons_succ, hd_]; rfl)) ((Below.refl _ _).alloc (Nat.le_refl _) _) ⟨_, _, rfl, by omega, rfl, Lies.fresh _ _ _⟩ (fun _ => ⟨_, rfl, Nat.le_refl _⟩)
    · intro w0_ hF_ hd_ Q_ K_ hK_
      have hc0_ := (bcell hF_).1
      have hf0_ := (bcell hF_).2
      have hz0_ := hF_.size; (try simp at hz0_)
      (try simp at hc0_ hf0_)
      have : w.heap.size < w0_.heap.size := by omega
      have : w.heap.size + 1 < w0_.heap.size := by omega
      simp only [DepsR, Region.binds, Nat.zero_add, Nat.reduceAdd, true_implies, Bool.false_eq_true, false_implies, and_true, true_and, BEq.rfl, reduceCtorEq] at hd_
      go_simp
      exact hK_.out _ _ _ (by first | rfl | (simp only [Act.put, List.setIfInBounds_toArray, List.set_cons_zero, List.set_cons_succ, hd_]; done) | (simp only [Act.put, List.setIfInBounds_toArray, List.set_cons_zero, List.set_cons_succ, hd_]; rfl)) ((Below.refl _ _).alloc (Nat.le_refl _) _) ⟨_, _, rfl, by omega, rfl, Lies.fresh _ _ _⟩ (fun _ => ⟨_, rfl, Nat.le_refl _⟩)
    · intro w0_ hF_ hd_ Q_ K_ hK_
      have hc0_ := (bcell hF_).1
      have hf0_ := (bcell hF_).2
      have hz0_ := hF_.size; (try simp at hz0_)
      (try simp at hc0_ hf0_)
      have : w.heap.size < w0_.heap.size := by omega
      have : w.heap.size + 1 < w0_.heap.size := by omega
      simp only [DepsR, Region.binds, Nat.zero_add, Nat.reduceAdd, true_implies, Bool.false_eq_true, false_implies, and_true, true_and, BEq.rfl, reduceCtorEq] at hd_
      go_simp
      exact hK_.out _ _ _ (by first | rfl | (simp only [Act.put, List.setIfInBounds_toArray, List.set_cons_zero, List.set_cons_succ, hd_]; done) | (simp only [Act.put, List.setIfInBounds_toArray, List.set_cons_zero, List.set_cons_succ, hd_]; rfl)) ((Below.refl _ _).alloc (Nat.le_refl _) _) ⟨_, _, rfl, by omega, rfl, Lies.fresh _ _ _⟩ (fun _ => ⟨_, rfl, Nat.le_refl _⟩)
    · intro w0_ hF_ hd_ Q_ K_ hK_
      have hc0_ := (bcell hF_).1
      have hf0_ := (bcell hF_).2
      have hz0_ := hF_.size; (try simp at hz0_)
      (try simp at hc0_ hf0_)
      have : w.heap.size < w0_.heap.size := by omega
      have : w.heap.size + 1 < w0_.heap.size := by omega
      simp only [DepsR, Region.binds, Nat.zero_add, Nat.reduceAdd, true_implies, Bool.false_eq_true, false_implies, and_true, true_and, BEq.rfl, reduceCtorEq] at hd_
      obtain ⟨b_, cs_, hv_, hB_, hn_, hl_⟩ : NewR (u2.heap.size) 25 4 (vs 8) w0_ := by simp only [hd_]
      obtain ⟨c0_, c1_, c2_, c3_, rfl⟩ := size4 hn_
      obtain ⟨k0_, k1_, k2_, k3_, f0_, f1_, f2_, f3_⟩ := hl_.cells4
      go_simp
      refine hK_.out _ undef _ (by first | rfl | (simp only [Act.put, List.setIfInBounds_toArray, List.set_cons_zero, List.set_cons_succ, hd_, hv_]; done) | (simp only [Act.put, List.setIfInBounds_toArray, List.set_cons_zero, List.set_cons_succ, hd_, hv_]; rfl)) ⟨?_, fun j_ hj_ hd2_ h_ => ?_⟩ ⟨b_, by simpa using hv_, hl_.put4 _ _ _ _⟩ (fun h => by cases h)
      · refine Below.setCell ?_ (by simp; omega) _; refine Below.setCell ?_ (by simp; omega) _; refine Below.setCell ?_ (by simp; omega) _; refine Below.setCell ?_ (by simp; omega) _; exact hF_
      · (try dsimp only at h_ hd2_ ⊢)
        split at h_ <;> first | (with_reducible exact h_) | (exact NewR.far4 h_ hv_ (hd2_ rfl rfl (by decide)) _ _ _ _) | (exact HasR.far4 h_ hv_ (hd2_ rfl rfl (by decide)) _ _ _ _) | exact ⟨b_, _, by simpa using hv_, hB_, rfl, hl_.put4 _ _ _ _⟩ | trivial | exact h_
    · intro w0_ hF_ hd_ Q_ K_ hK_
      have hc0_ := (bcell hF_).1
      have hf0_ := (bcell hF_).2
      have hz0_ := hF_.size; (try simp at hz0_)
      (try simp at hc0_ hf0_)
      have : w.heap.size < w0_.heap.size := by omega
      have : w.heap.size + 1 < w0_.heap.size := by omega
      simp only [DepsR, Region.binds, Nat.zero_add, Nat.reduceAdd, true_implies, Bool.false_eq_true, false_implies, and_true, true_and, BEq.rfl, reduceCtorEq] at hd_
      obtain ⟨b_, cs_, hv_, hB_, hn_, hl_⟩ : NewR (u2.heap.size) 25 4 (vs 9) w0_ := by simp only [hd_]
      obtain ⟨c0_, c1_, c2_, c3_, rfl⟩ := size4 hn_
      obtain ⟨k0_, k1_, k2_, k3_, f0_, f1_, f2_, f3_⟩ := hl_.cells4
      go_simp
      refine hK_.out _ undef _ (by first | rfl | (simp only [Act.put, List.setIfInBounds_toArray, List.set_cons_zero, List.set_cons_succ, hd_, hv_]; done) | (simp only [Act.put, List.setIfInBounds_toArray, List.set_cons_zero, List.set_cons_succ, hd_, hv_]; rfl)) ⟨?_, fun j_ hj_ hd2_ h_ => ?_⟩ ⟨b_, by simpa using hv_, hl_.put4 _ _ _ _⟩ (fun h => by cases h)
      · refine Below.setCell ?_ (by simp; omega) _; refine Below.setCell ?_ (by simp; omega) _; refine Below.setCell ?_ (by simp; omega) _; refine Below.setCell ?_ (by simp; omega) _; exact hF_
      · (try dsimp only at h_ hd2_ ⊢)
        split at h_ <;> first | (with_reducible exact h_) | (exact NewR.far4 h_ hv_ (hd2_ rfl rfl (by decide)) _ _ _ _) | (exact HasR.far4 h_ hv_ (hd2_ rfl rfl (by decide)) _ _ _ _) | exact ⟨b_, _, by simpa using hv_, hB_, rfl, hl_.put4 _ _ _ _⟩ | trivial | exact h_
    · intro w0_ hF_ hd_ Q_ K_ hK_
      have hc0_ := (bcell hF_).1
      have hf0_ := (bcell hF_).2
      have hz0_ := hF_.size; (try simp at hz0_)
      (try simp at hc0_ hf0_)
      have : w.heap.size < w0_.heap.size := by omega
      have : w.heap.size + 1 < w0_.heap.size := by omega
      simp only [DepsR, Region.binds, Nat.zero_add, Nat.reduceAdd, true_implies, Bool.false_eq_true, false_implies, and_true, true_and, BEq.rfl, reduceCtorEq] at hd_
      obtain ⟨b_, cs_, hv_, hB_, hn_, hl_⟩ : NewR (u2.heap.size) 25 4 (vs 10) w0_ := by simp only [hd_]
      obtain ⟨c0_, c1_, c2_, c3_, rfl⟩ := size4 hn_
      obtain ⟨k0_, k1_, k2_, k3_, f0_, f1_, f2_, f3_⟩ := hl_.cells4
      go_simp
      refine hK_.out _ undef _ (by first | rfl | (simp only [Act.put, List.setIfInBounds_toArray, List.set_cons_zero, List.set_cons_succ, hd_, hv_]; done) | (simp only [Act.put, List.setIfInBounds_toArray, List.set_cons_zero, List.set_cons_succ, hd_, hv_]; rfl)) ⟨?_, fun j_ hj_ hd2_ h_ => ?_⟩ ⟨b_, by simpa using hv_, hl_.put4 _ _ _ _⟩ (fun h => by cases h)
      · refine Below.setCell ?_ (by simp; omega) _; refine Below.setCell ?_ (by simp; omega) _; refine Below.setCell ?_ (by simp; omega) _; refine Below.setCell ?_ (by simp; omega) _; exact hF_
      · (try dsimp only at h_ hd2_ ⊢)
        split at h_ <;> first | (with_reducible exact h_) | (exact NewR.far4 h_ hv_ (hd2_ rfl rfl (by decide)) _ _ _ _) | (exact HasR.far4 h_ hv_ (hd2_ rfl rfl (by decide)) _ _ _ _) | exact ⟨b_, _, by simpa using hv_, hB_, rfl, hl_.put4 _ _ _ _⟩ | trivial | exact h_
  · intro vs u3 hBu3 hA_ hD_
    simp only [AllR, Nat.zero_add, Nat.reduceAdd, and_true] at hA_
    obtain ⟨r0_, r1_, r2_, r3_, r4_, r5_, r6_, r7_, r8_, r9_, r10_, r11_, r12_, r13_⟩ := hA_
    obtain ⟨b8u3, e8_, l8⟩ := r11_
    obtain ⟨b_, cs_, e_, hb8, n_, l_⟩ := r8_
    obtain rfl : b8u3 = b_ := by have := e_.symm.trans e8_; simpa using this.symm
    clear e_ n_ l_
    obtain ⟨b9u3, e9_, l9⟩ := r12_
    obtain ⟨b_, cs_, e_, hb9, n_, l_⟩ := r9_
    obtain rfl : b9u3 = b_ := by have := e_.symm.trans e9_; simpa using this.symm
    clear e_ n_ l_
    obtain ⟨b10u3, e10_, l10⟩ := r13_
    obtain ⟨b_, cs_, e_, hb10, n_, l_⟩ := r10_
    obtain rfl : b10u3 = b_ := by have := e_.symm.trans e10_; simpa using this.symm
    clear e_ n_ l_
    have : b9u3 ≠ b8u3 := fun h_ => hD_ 9 8 rfl rfl (by decide) (by decide) (by decide) (by rw [e9_, e8_, h_])
    have : b10u3 ≠ b8u3 := fun h_ => hD_ 10 8 rfl rfl (by decide) (by decide) (by decide) (by rw [e10_, e8_, h_])
    have : b10u3 ≠ b9u3 := fun h_ => hD_ 10 9 rfl rfl (by decide) (by decide) (by decide) (by rw [e10_, e9_, h_])
    clear hD_
    simp only [putAll, Act.put, List.setIfInBounds_toArray, List.set_cons_zero, List.set_cons_succ, Nat.zero_add, Nat.reduceAdd, r0_, r1_, r2_, r3_, r4_, r5_, r6_, r7_, e8_, e9_, e10_]
    clear r0_ r1_ r2_ r3_ r4_ r5_ r6_ r7_ e8_ e9_ e10_
    obtain ⟨hcu3, hfu3⟩ := bcell hBu3; (try simp only [World.size_drew, World.cell?_drew, World.frozen?_drew] at hcu3 hfu3); have hzu3 := hBu3.size; (try simp at hzu3)
    have : w.heap.size < u3.heap.size := by omega
    have : w.heap.size + 1 < u3.heap.size := by omega
    obtain ⟨k8_0, k8_1, k8_2, k8_3, f8_0, f8_1, f8_2, f8_3⟩ := l8.cells4
    have : b8u3 < u3.heap.size := l8.lt
    obtain ⟨k9_0, k9_1, k9_2, k9_3, f9_0, f9_1, f9_2, f9_3⟩ := l9.cells4
    have : b9u3 < u3.heap.size := l9.lt
    obtain ⟨k10_0, k10_1, k10_2, k10_3, f10_0, f10_1, f10_2, f10_3⟩ := l10.cells4
    have : b10u3 < u3.heap.size := l10.lt
    have ra3 := ra.on hBu3
    have rb3 := rb.on hBu3
    have hB3 : Below w.heap.size w u3 := hB2.trans (hBu3.mono hs2)
    have hs3 := hB3.size
    clear k0 k1 k2 k3 m0 m1 m2 m3 hcu3 hfu3 f8_0 f8_1 f8_2 f8_3 f9_0 f9_1 f9_2 f9_3 f10_0 f10_1 f10_2 f10_3
    obtain ⟨k0, k1, k2, k3, f0, f1, f2, f3, z0'⟩ := ra3.four
    obtain ⟨m0, m1, m2, m3, g0, g1, g2, g3, y0'⟩ := rb3.four
    clear f0 f1 f2 f3 g0 g1 g2 g3 ra rb R1 O1
    go_upto_region 4 with fail
    go_cut [66] (fun t66 u4 => t66 = .bool false ∧ Below u3.heap.size u3 u4)
    case first =>
      rcases (by cases bl <;> cases pc <;> simp : (bl = true ∧ pc = true) ∨ (bl = true ∧ pc = false) ∨ (bl = false ∧ pc = true) ∨ (bl = false ∧ pc = false)) with ⟨rfl, rfl⟩ | ⟨rfl, rfl⟩ | ⟨rfl, rfl⟩ | ⟨rfl, rfl⟩
      · skip
        refine wp_region_keep (t := fun j => j) (al := fun _ => false) (loud := fun _ => false)
          (R := fun j v u w' => match j with
            | 0 => v = setV r
            | 1 => v = .int .u8 (c : Int)
            | 2 => v = .bool (true && br)
            | 3 => v = .int .u8 (fa : Int)
            | 4 => v = .int .u8 (c : Int)
            | 5 => v = .bool true
            | 6 => v = .bool true
            | 7 => v = .int .u8 (c : Int)
            | 8 => v = .int .u8 (fb : Int)
            | 9 => v = .bool br
            | 10 => v = .bool br
            | 11 => v = .bool false
            | 12 => v = .bool false
            | 13 => v = setV o
            | 14 => v = .int .u8 (c : Int)
            | 15 => v = .bool (true || qc)
            | 16 => v = setV p
            | 17 => v = .int .u8 (c : Int)
            | 18 => v = .bool true
            | 19 => v = .bool true
            | 20 => v = undef
            | 21 => v = undef
            | 22 => v = undef
            | 23 => v = .bool true
            | 24 => v = .bool false
            | 25 => v = .bool false
            | 26 => v = .bool false
            | 27 => v = setV n
            | 28 => v = .int .u8 (c : Int)
            | 29 => v = .bool (!true)
            | 30 => v = setV p
            | 31 => v = .int .u8 (c : Int)
            | 32 => v = .bool true
            | 33 => v = .bool false
            | 34 => v = .bool false
            | 35 => v = .bool false
            | 36 => v = setV n
            | 37 => v = setV p
            | 38 => v = setV p
            | 39 => v = .bool false
            | 40 => v = .bool false
            | _ => True) (by kernel_rfl) (by kernel_rfl) (by kernel_rfl) ?_ ?_ ?_ ?_
        · intro j v u w1_ w2_ h_ hF_ hB_
          (try dsimp only at h_ ⊢)
          split at h_ <;> first | (with_reducible exact h_) | (with_reducible exact NewR.on h_ hB_) | (with_reducible exact HasR.on h_ hB_) | exact IsNum.on h_ hB_ | exact HasNum.on h_ hB_ | exact RHeld.on h_ hB_ | trivial | exact h_
        · intro j v u w1_ h1_ h_
          cases h1_
        · intro vs
          simp only [putAll, Act.put, List.setIfInBounds_toArray, List.set_cons_zero, List.set_cons_succ, Nat.zero_add, Nat.reduceAdd]
          refine ⟨?_, ?_, ?_, ?_, ?_, ?_, ?_, ?_, ?_, ?_, ?_, ?_, ?_, ?_, ?_, ?_, ?_, ?_, ?_, ?_, ?_, ?_, ?_, ?_, ?_, ?_, ?_, ?_, ?_, ?_, ?_, ?_, ?_, ?_, ?_, ?_, ?_, ?_, ?_, ?_, ?_, trivial⟩
          · intro w0_ hF_ hd_ Q_ K_ hK_
            have hc0_ := (bcell hF_).1
            have hf0_ := (bcell hF_).2
            have hz0_ := hF_.size; (try simp at hz0_)
            (try simp at hc0_ hf0_)
            have : w.heap.size < w0_.heap.size := by omega
            have : w.heap.size + 1 < w0_.heap.size := by omega
            have : b8u3 < w0_.heap.size := by omega
            have : b9u3 < w0_.heap.size := by omega
            have : b10u3 < w0_.heap.size := by omega
            simp only [DepsR, Region.binds, Nat.zero_add, Nat.reduceAdd, true_implies, Bool.false_eq_true, false_implies, and_true, true_and, BEq.rfl, reduceCtorEq] at hd_
            go_simp
            exact hK_.out _ _ _ (by first | rfl | (simp only [Act.put, List.setIfInBounds_toArray, List.set_cons_zero, List.set_cons_succ, hd_]; done) | (simp only [Act.put, List.setIfInBounds_toArray, List.set_cons_zero, List.set_cons_succ, hd_]; rfl)) (Below.refl _ _) rfl (fun h => by cases h)
          · intro w0_ hF_ hd_ Q_ K_ hK_
            have hc0_ := (bcell hF_).1
            have hf0_ := (bcell hF_).2
            have hz0_ := hF_.size; (try simp at hz0_)
            (try simp at hc0_ hf0_)
            have : w.heap.size < w0_.heap.size := by omega
            have : w.heap.size + 1 < w0_.heap.size := by omega
            have : b8u3 < w0_.heap.size := by omega
            have : b9u3 < w0_.heap.size := by omega
            have : b10u3 < w0_.heap.size := by omega
            simp only [DepsR, Region.binds, Nat.zero_add, Nat.reduceAdd, true_implies, Bool.false_eq_true, false_implies, and_true, true_and, BEq.rfl, reduceCtorEq] at hd_
            go_simp
            exact hK_.out _ _ _ (by first | rfl | (simp only [Act.put, List.setIfInBounds_toArray, List.set_cons_zero, List.set_cons_succ, hd_]; done) | (simp only [Act.put, List.setIfInBounds_toArray, List.set_cons_zero, List.set_cons_succ, hd_]; rfl)) (Below.refl _ _) rfl (fun h => by cases h)
          · intro w0_ hF_ hd_ Q_ K_ hK_
            have hc0_ := (bcell hF_).1
            have hf0_ := (bcell hF_).2
            have hz0_ := hF_.size; (try simp at hz0_)
            (try simp at hc0_ hf0_)
            have : w.heap.size < w0_.heap.size := by omega
            have : w.heap.size + 1 < w0_.heap.size := by omega
            have : b8u3 < w0_.heap.size := by omega
            have : b9u3 < w0_.heap.size := by omega
            have : b10u3 < w0_.heap.size := by omega
            simp only [DepsR, Region.binds, Nat.zero_add, Nat.reduceAdd, true_implies, Bool.false_eq_true, false_implies, and_true, true_and, BEq.rfl, reduceCtorEq] at hd_
            go_simp
            refine (H1.out _).mono ?_
            rintro e_ w1_ ⟨rfl, hb_⟩
            exact hK_.out _ _ _ (by first | rfl | (simp only [Act.put, List.setIfInBounds_toArray, List.set_cons_zero, List.set_cons_succ, hd_]; done) | (simp only [Act.put, List.setIfInBounds_toArray, List.set_cons_zero, List.set_cons_succ, hd_]; rfl)) hb_ rfl (fun h => by cases h)
          · intro w0_ hF_ hd_ Q_ K_ hK_
            have hc0_ := (bcell hF_).1
            have hf0_ := (bcell hF_).2
            have hz0_ := hF_.size; (try simp at hz0_)
            (try simp at hc0_ hf0_)
            have : w.heap.size < w0_.heap.size := by omega
            have : w.heap.size + 1 < w0_.heap.size := by omega
            have : b8u3 < w0_.heap.size := by omega
            have : b9u3 < w0_.heap.size := by omega
            have : b10u3 < w0_.heap.size := by omega
            simp only [DepsR, Region.binds, Nat.zero_add, Nat.reduceAdd, true_implies, Bool.false_eq_true, false_implies, and_true, true_and, BEq.rfl, reduceCtorEq] at hd_
            go_simp
            exact hK_.out _ _ _ (by first | rfl | (simp only [Act.put, List.setIfInBounds_toArray, List.set_cons_zero, List.set_cons_succ, hd_]; done) | (simp only [Act.put, List.setIfInBounds_toArray, List.set_cons_zero, List.set_cons_succ, hd_]; rfl)) (Below.refl _ _) rfl (fun h => by cases h)
          · intro w0_ hF_ hd_ Q_ K_ hK_
            have hc0_ := (bcell hF_).1
            have hf0_ := (bcell hF_).2
            have hz0_ := hF_.size; (try simp at hz0_)
            (try simp at hc0_ hf0_)
            have : w.heap.size < w0_.heap.size := by omega
            have : w.heap.size + 1 < w0_.heap.size := by omega
            have : b8u3 < w0_.heap.size := by omega
            have : b9u3 < w0_.heap.size := by omega
            have : b10u3 < w0_.heap.size := by omega
            simp only [DepsR, Region.binds, Nat.zero_add, Nat.reduceAdd, true_implies, Bool.false_eq_true, false_implies, and_true, true_and, BEq.rfl, reduceCtorEq] at hd_
            go_simp
            exact hK_.out _ _ _ (by first | rfl | (simp only [Act.put, List.setIfInBounds_toArray, List.set_cons_zero, List.set_cons_succ, hd_]; done) | (simp only [Act.put, List.setIfInBounds_toArray, List.set_cons_zero, List.set_cons_succ, hd_]; rfl)) (Below.refl _ _) rfl (fun h => by cases h)
          · intro w0_ hF_ hd_ Q_ K_ hK_
            have hc0_ := (bcell hF_).1
            have hf0_ := (bcell hF_).2
            have hz0_ := hF_.size; (try simp at hz0_)
            (try simp at hc0_ hf0_)
            have : w.heap.size < w0_.heap.size := by omega
            have : w.heap.size + 1 < w0_.heap.size := by omega
            have : b8u3 < w0_.heap.size := by omega
            have : b9u3 < w0_.heap.size := by omega
            have : b10u3 < w0_.heap.size := by omega
            simp only [DepsR, Region.binds, Nat.zero_add, Nat.reduceAdd, true_implies, Bool.false_eq_true, false_implies, and_true, true_and, BEq.rfl, reduceCtorEq] at hd_
            go_simp
            exact hK_.out _ _ _ (by first | rfl | (simp only [Act.put, List.setIfInBounds_toArray, List.set_cons_zero, List.set_cons_succ, hd_]; done) | (simp only [Act.put, List.setIfInBounds_toArray, List.set_cons_zero, List.set_cons_succ, hd_]; rfl)) (Below.refl _ _) rfl (fun h => by cases h)
          · intro w0_ hF_ hd_ Q_ K_ hK_
            have hc0_ := (bcell hF_).1
            have hf0_ := (bcell hF_).2
            have hz0_ := hF_.size; (try simp at hz0_)
            (try simp at hc0_ hf0_)
            have : w.heap.size < w0_.heap.size := by omega
            have : w.heap.size + 1 < w0_.heap.size := by omega
            have : b8u3 < w0_.heap.size := by omega
            have : b9u3 < w0_.heap.size := by omega
            have : b10u3 < w0_.heap.size := by omega
            simp only [DepsR, Region.binds, Nat.zero_add, Nat.reduceAdd, true_implies, Bool.false_eq_true, false_implies, and_true, true_and, BEq.rfl, reduceCtorEq] at hd_
            go_simp
            exact hK_.out _ _ _ (by first | rfl | (simp only [Act.put, List.setIfInBounds_toArray, List.set_cons_zero, List.set_cons_succ, hd_]; done) | (simp only [Act.put, List.setIfInBounds_toArray, List.set_cons_zero, List.set_cons_succ, hd_]; rfl)) (Below.refl _ _) rfl (fun h => by cases h)
          · intro w0_ hF_ hd_ Q_ K_ hK_
            have hc0_ := (bcell hF_).1
            have hf0_ := (bcell hF_).2
            have hz0_ := hF_.size; (try simp at hz0_)
            (try simp at hc0_ hf0_)
            have : w.heap.size < w0_.heap.size := by omega
            have : w.heap.size + 1 < w0_.heap.size := by omega
            have : b8u3 < w0_.heap.size := by omega
            have : b9u3 < w0_.heap.size := by omega
            have : b10u3 < w0_.heap.size := by omega
            simp only [DepsR, Region.binds, Nat.zero_add, Nat.reduceAdd, true_implies, Bool.false_eq_true, false_implies, and_true, true_and, BEq.rfl, reduceCtorEq] at hd_
            go_simp
            exact hK_.out _ _ _ (by first | rfl | (simp only [Act.put, List.setIfInBounds_toArray, List.set_cons_zero, List.set_cons_succ, hd_]; done) | (simp only [Act.put, List.setIfInBounds_toArray, List.set_cons_zero, List.set_cons_succ, hd_]; rfl)) (Below.refl _ _) rfl (fun h => by cases h)
          · intro w0_ hF_ hd_ Q_ K_ hK_
            have hc0_ := (bcell hF_).1
            have hf0_ := (bcell hF_).2
            have hz0_ := hF_.size; (try simp at hz0_)
            (try simp at hc0_ hf0_)
            have : w.heap.size < w0_.heap.size := by omega
            have : w.heap.size + 1 < w0_.heap.size := by omega
            have : b8u3 < w0_.heap.size := by omega
            have : b9u3 < w0_.heap.size := by omega
            have : b10u3 < w0_.heap.size := by omega
            simp only [DepsR, Region.binds, Nat.zero_add, Nat.reduceAdd, true_implies, Bool.false_eq_true, false_implies, and_true, true_and, BEq.rfl, reduceCtorEq] at hd_
            go_simp
            exact hK_.out _ _ _ (by first | rfl | (simp only [Act.put, List.setIfInBounds_toArray, List.set_cons_zero, List.set_cons_succ, hd_]; done) | (simp only [Act.put, List.setIfInBounds_toArray, List.set_cons_zero, List.set_cons_succ, hd_]; rfl)) (Below.refl _ _) rfl (fun h => by cases h)
          · intro w0_ hF_ hd_ Q_ K_ hK_
            have hc0_ := (bcell hF_).1
            have hf0_ := (bcell hF_).2
            have hz0_ := hF_.size; (try simp at hz0_)
            (try simp at hc0_ hf0_)
            have : w.heap.size < w0_.heap.size := by omega
            have : w.heap.size + 1 < w0_.heap.size := by omega
            have : b8u3 < w0_.heap.size := by omega
            have : b9u3 < w0_.heap.size := by omega
            have : b10u3 < w0_.heap.size := by omega
            simp only [DepsR, Region.binds, Nat.zero_add, Nat.reduceAdd, true_implies, Bool.false_eq_true, false_implies, and_true, true_and, BEq.rfl, reduceCtorEq] at hd_
            go_simp
            exact hK_.out _ _ _ (by first | rfl | (simp only [Act.put, List.setIfInBounds_toArray, List.set_cons_zero, List.set_cons_succ, hd_]; done) | (simp only [Act.put, List.setIfInBounds_toArray, List.set_cons_zero, List.set_cons_succ, hd_]; rfl)) (Below.refl _ _) rfl (fun h => by cases h)
          · intro w0_ hF_ hd_ Q_ K_ hK_
            have hc0_ := (bcell hF_).1
            have hf0_ := (bcell hF_).2
            have hz0_ := hF_.size; (try simp at hz0_)
            (try simp at hc0_ hf0_)
            have : w.heap.size < w0_.heap.size := by omega
            have : w.heap.size + 1 < w0_.heap.size := by omega
            have : b8u3 < w0_.heap.size := by omega
            have : b9u3 < w0_.heap.size := by omega
            have : b10u3 < w0_.heap.size := by omega
            simp only [DepsR, Region.binds, Nat.zero_add, Nat.reduceAdd, true_implies, Bool.false_eq_true, false_implies, and_true, true_and, BEq.rfl, reduceCtorEq] at hd_
            go_simp
            exact hK_.out _ _ _ (by first | rfl | (simp only [Act.put, List.setIfInBounds_toArray, List.set_cons_zero, List.set_cons_succ, hd_]; done) | (simp only [Act.put, List.setIfInBounds_toArray, List.set_cons_zero, List.set_cons_succ, hd_]; rfl)) (Below.refl _ _) rfl (fun h => by cases h)
          · intro w0_ hF_ hd_ Q_ K_ hK_
            have hc0_ := (bcell hF_).1
            have hf0_ := (bcell hF_).2
            have hz0_ := hF_.size; (try simp at hz0_)
            (try simp at hc0_ hf0_)
            have : w.heap.size < w0_.heap.size := by omega
            have : w.heap.size + 1 < w0_.heap.size := by omega
            have : b8u3 < w0_.heap.size := by omega
            have : b9u3 < w0_.heap.size := by omega
            have : b10u3 < w0_.heap.size := by omega
            simp only [DepsR, Region.binds, Nat.zero_add, Nat.reduceAdd, true_implies, Bool.false_eq_true, false_implies, and_true, true_and, BEq.rfl, reduceCtorEq] at hd_
            go_simp
            exact hK_.out _ _ _ (by first | rfl | (simp only [Act.put, List.setIfInBounds_toArray, List.set_cons_zero, List.set_cons_succ, hd_]; done) | (simp only [Act.put, List.setIfInBounds_toArray, List.set_cons_zero, List.set_cons_succ, hd_]; rfl)) (Below.refl _ _) rfl (fun h => by cases h)
          · intro w0_ hF_ hd_ Q_ K_ hK_
            have hc0_ := (bcell hF_).1
            have hf0_ := (bcell hF_).2
            have hz0_ := hF_.size; (try simp at hz0_)
            (try simp at hc0_ hf0_)
            have : w.heap.size < w0_.heap.size := by omega
            have : w.heap.size + 1 < w0_.heap.size := by omega
            have : b8u3 < w0_.heap.size := by omega
            have : b9u3 < w0_.heap.size := by omega
            have : b10u3 < w0_.heap.size := by omega
            simp only [DepsR, Region.binds, Nat.zero_add, Nat.reduceAdd, true_implies, Bool.false_eq_true, false_implies, and_true, true_and, BEq.rfl, reduceCtorEq] at hd_
            go_simp
            exact hK_.out _ _ _ (by first | rfl | (simp only [Act.put, List.setIfInBounds_toArray, List.set_cons_zero, List.set_cons_succ, hd_]; done) | (simp only [Act.put, List.setIfInBounds_toArray, List.set_cons_zero, List.set_cons_succ, hd_]; rfl)) (Below.refl _ _) rfl (fun h => by cases h)
          · intro w0_ hF_ hd_ Q_ K_ hK_
            have hc0_ := (bcell hF_).1
            have hf0_ := (bcell hF_).2
            have hz0_ := hF_.size; (try simp at hz0_)
            (try simp at hc0_ hf0_)
            have : w.heap.size < w0_.heap.size := by omega
            have : w.heap.size + 1 < w0_.heap.size := by omega
            have : b8u3 < w0_.heap.size := by omega
            have : b9u3 < w0_.heap.size := by omega
            have : b10u3 < w0_.heap.size := by omega
            simp only [DepsR, Region.binds, Nat.zero_add, Nat.reduceAdd, true_implies, Bool.false_eq_true, false_implies, and_true, true_and, BEq.rfl, reduceCtorEq] at hd_
            go_simp
            exact hK_.out _ _ _ (by first | rfl | (simp only [Act.put, List.setIfInBounds_toArray, List.set_cons_zero, List.set_cons_succ, hd_]; done) | (simp only [Act.put, List.setIfInBounds_toArray, List.set_cons_zero, List.set_cons_succ, hd_]; rfl)) (Below.refl _ _) rfl (fun h => by cases h)
          · intro w0_ hF_ hd_ Q_ K_ hK_
            have hc0_ := (bcell hF_).1
            have hf0_ := (bcell hF_).2
            have hz0_ := hF_.size; (try simp at hz0_)
            (try simp at hc0_ hf0_)
            have : w.heap.size < w0_.heap.size := by omega
            have : w.heap.size + 1 < w0_.heap.size := by omega
            have : b8u3 < w0_.heap.size := by omega
            have : b9u3 < w0_.heap.size := by omega
            have : b10u3 < w0_.heap.size := by omega
            simp only [DepsR, Region.binds, Nat.zero_add, Nat.reduceAdd, true_implies, Bool.false_eq_true, false_implies, and_true, true_and, BEq.rfl, reduceCtorEq] at hd_
            go_simp
            exact hK_.out _ _ _ (by first | rfl | (simp only [Act.put, List.setIfInBounds_toArray, List.set_cons_zero, List.set_cons_succ, hd_]; done) | (simp only [Act.put, List.setIfInBounds_toArray, List.set_cons_zero, List.set_cons_succ, hd_]; rfl)) (Below.refl _ _) rfl (fun h => by cases h)
          · intro w0_ hF_ hd_ Q_ K_ hK_
            have hc0_ := (bcell hF_).1
            have hf0_ := (bcell hF_).2
            have hz0_ := hF_.size; (try simp at hz0_)
            (try simp at hc0_ hf0_)
            have : w.heap.size < w0_.heap.size := by omega
            have : w.heap.size + 1 < w0_.heap.size := by omega
            have : b8u3 < w0_.heap.size := by omega
            have : b9u3 < w0_.heap.size := by omega
            have : b10u3 < w0_.heap.size := by omega
            simp only [DepsR, Region.binds, Nat.zero_add, Nat.reduceAdd, true_implies, Bool.false_eq_true, false_implies, and_true, true_and, BEq.rfl, reduceCtorEq] at hd_
            go_simp
            refine (H2.out _).mono ?_
            rintro e_ w1_ ⟨rfl, hb_⟩
            exact hK_.out _ _ _ (by first | rfl | (simp only [Act.put, List.setIfInBounds_toArray, List.set_cons_zero, List.set_cons_succ, hd_]; done) | (simp only [Act.put, List.setIfInBounds_toArray, List.set_cons_zero, List.set_cons_succ, hd_]; rfl)) hb_ rfl (fun h => by cases h)
          · intro w0_ hF_ hd_ Q_ K_ hK_
            have hc0_ := (bcell hF_).1
            have hf0_ := (bcell hF_).2
            have hz0_ := hF_.size; (try simp at hz0_)
            (try simp at hc0_ hf0_)
            have : w.heap.size < w0_.heap.size := by omega
            have : w.heap.size + 1 < w0_.heap.size := by omega
            have : b8u3 < w0_.heap.size := by omega
            have : b9u3 < w0_.heap.size := by omega
            have : b10u3 < w0_.heap.size := by omega
            simp only [DepsR, Region.binds, Nat.zero_add, Nat.reduceAdd, true_implies, Bool.false_eq_true, false_implies, and_true, true_and, BEq.rfl, reduceCtorEq] at hd_
            go_simp
            exact hK_.out _ _ _ (by first | rfl | (simp only [Act.put, List.setIfInBounds_toArray, List.set_cons_zero, List.set_cons_succ, hd_]; done) | (simp only [Act.put, List.setIfInBounds_toArray, List.set_cons_zero, List.set_cons_succ, hd_]; rfl)) (Below.refl _ _) rfl (fun h => by cases h)
          · intro w0_ hF_ hd_ Q_ K_ hK_
            have hc0_ := (bcell hF_).1
            have hf0_ := (bcell hF_).2
            have hz0_ := hF_.size; (try simp at hz0_)
            (try simp at hc0_ hf0_)
            have : w.heap.size < w0_.heap.size := by omega
            have : w.heap.size + 1 < w0_.heap.size := by omega
            have : b8u3 < w0_.heap.size := by omega
            have : b9u3 < w0_.heap.size := by omega
            have : b10u3 < w0_.heap.size := by omega
            simp only [DepsR, Region.binds, Nat.zero_add, Nat.reduceAdd, true_implies, Bool.false_eq_true, false_implies, and_true, true_and, BEq.rfl, reduceCtorEq] at hd_
            go_simp
            exact hK_.out _ _ _ (by first | rfl | (simp only [Act.put, List.setIfInBounds_toArray, List.set_cons_zero, List.set_cons_succ, hd_]; done) | (simp only [Act.put, List.setIfInBounds_toArray, List.set_cons_zero, List.set_cons_succ, hd_]; rfl)) (Below.refl _ _) rfl (fun h => by cases h)
          · intro w0_ hF_ hd_ Q_ K_ hK_
            have hc0_ := (bcell hF_).1
            have hf0_ := (bcell hF_).2
            have hz0_ := hF_.size; (try simp at hz0_)
            (try simp at hc0_ hf0_)
            have : w.heap.size < w0_.heap.size := by omega
            have : w.heap.size + 1 < w0_.heap.size := by omega
            have : b8u3 < w0_.heap.size := by omega
            have : b9u3 < w0_.heap.size := by omega
            have : b10u3 < w0_.heap.size := by omega
            simp only [DepsR, Region.binds, Nat.zero_add, Nat.reduceAdd, true_implies, Bool.false_eq_true, false_implies, and_true, true_and, BEq.rfl, reduceCtorEq] at hd_
            go_simp
            refine (H3.out _).mono ?_
            rintro e_ w1_ ⟨rfl, hb_⟩
            exact hK_.out _ _ _ (by first | rfl | (simp only [Act.put, List.setIfInBounds_toArray, List.set_cons_zero, List.set_cons_succ, hd_]; done) | (simp only [Act.put, List.setIfInBounds_toArray, List.set_cons_zero, List.set_cons_succ, hd_]; rfl)) hb_ rfl (fun h => by cases h)
          · intro w0_ hF_ hd_ Q_ K_ hK_
            have hc0_ := (bcell hF_).1
            have hf0_ := (bcell hF_).2
            have hz0_ := hF_.size; (try simp at hz0_)
            (try simp at hc0_ hf0_)
            have : w.heap.size < w0_.heap.size := by omega
            have : w.heap.size + 1 < w0_.heap.size := by omega
            have : b8u3 < w0_.heap.size := by omega
            have : b9u3 < w0_.heap.size := by omega
            have : b10u3 < w0_.heap.size := by omega
            simp only [DepsR, Region.binds, Nat.zero_add, Nat.reduceAdd, true_implies, Bool.false_eq_true, false_implies, and_true, true_and, BEq.rfl, reduceCtorEq] at hd_
            go_simp
            exact hK_.out _ _ _ (by first | rfl | (simp only [Act.put, List.setIfInBounds_toArray, List.set_cons_zero, List.set_cons_succ, hd_]; done) | (simp only [Act.put, List.setIfInBounds_toArray, List.set_cons_zero, List.set_cons_succ, hd_]; rfl)) (Below.refl _ _) rfl (fun h => by cases h)
          · intro w0_ hF_ hd_ Q_ K_ hK_
            have hc0_ := (bcell hF_).1
            have hf0_ := (bcell hF_).2
            have hz0_ := hF_.size; (try simp at hz0_)
            (try simp at hc0_ hf0_)
            have : w.heap.size < w0_.heap.size := by omega
            have : w.heap.size + 1 < w0_.heap.size := by omega
            have : b8u3 < w0_.heap.size := by omega
            have : b9u3 < w0_.heap.size := by omega
            have : b10u3 < w0_.heap.size := by omega
            simp only [DepsR, Region.binds, Nat.zero_add, Nat.reduceAdd, true_implies, Bool.false_eq_true, false_implies, and_true, true_and, BEq.rfl, reduceCtorEq] at hd_
            go_simp
            exact hK_.out _ _ _ (by first | rfl | (simp only [Act.put, List.setIfInBounds_toArray, List.set_cons_zero, List.set_cons_succ, hd_]; done) | (simp only [Act.put, List.setIfInBounds_toArray, List.set_cons_zero, List.set_cons_succ, hd_]; rfl)) (Below.refl _ _) rfl (fun h => by cases h)
          · intro w0_ hF_ hd_ Q_ K_ hK_
            have hc0_ := (bcell hF_).1
            have hf0_ := (bcell hF_).2
            have hz0_ := hF_.size; (try simp at hz0_)
            (try simp at hc0_ hf0_)
            have : w.heap.size < w0_.heap.size := by omega
            have : w.heap.size + 1 < w0_.heap.size := by omega
            have : b8u3 < w0_.heap.size := by omega
            have : b9u3 < w0_.heap.size := by omega
            have : b10u3 < w0_.heap.size := by omega
            simp only [DepsR, Region.binds, Nat.zero_add, Nat.reduceAdd, true_implies, Bool.false_eq_true, false_implies, and_true, true_and, BEq.rfl, reduceCtorEq] at hd_
            go_simp
            exact hK_.out _ _ _ (by first | rfl | (simp only [Act.put, List.setIfInBounds_toArray, List.set_cons_zero, List.set_cons_succ, hd_]; done) | (simp only [Act.put, List.setIfInBounds_toArray, List.set_cons_zero, List.set_cons_succ, hd_]; rfl)) (Below.refl _ _) rfl (fun h => by cases h)
          · intro w0_ hF_ hd_ Q_ K_ hK_
            have hc0_ := (bcell hF_).1
            have hf0_ := (bcell hF_).2
            have hz0_ := hF_.size; (try simp at hz0_)
            (try simp at hc0_ hf0_)
            have : w.heap.size < w0_.heap.size := by omega
            have : w.heap.size + 1 < w0_.heap.size := by omega
            have : b8u3 < w0_.heap.size := by omega
            have : b9u3 < w0_.heap.size := by omega
            have : b10u3 < w0_.heap.size := by omega
            simp only [DepsR, Region.binds, Nat.zero_add, Nat.reduceAdd, true_implies, Bool.false_eq_true, false_implies, and_true, true_and, BEq.rfl, reduceCtorEq] at hd_
            go_simp
            exact hK_.out _ _ _ (by first | rfl | (simp only [Act.put, List.setIfInBounds_toArray, List.set_cons_zero, List.set_cons_succ, hd_]; done) | (simp only [Act.put, List.setIfInBounds_toArray, List.set_cons_zero, List.set_cons_succ, hd_]; rfl)) (Below.refl _ _) rfl (fun h => by cases h)
          · intro w0_ hF_ hd_ Q_ K_ hK_
            have hc0_ := (bcell hF_).1
            have hf0_ := (bcell hF_).2
            have hz0_ := hF_.size; (try simp at hz0_)
            (try simp at hc0_ hf0_)
            have : w.heap.size < w0_.heap.size := by omega
            have : w.heap.size + 1 < w0_.heap.size := by omega
            have : b8u3 < w0_.heap.size := by omega
            have : b9u3 < w0_.heap.size := by omega
            have : b10u3 < w0_.heap.size := by omega
            simp only [DepsR, Region.binds, Nat.zero_add, Nat.reduceAdd, true_implies, Bool.false_eq_true, false_implies, and_true, true_and, BEq.rfl, reduceCtorEq] at hd_
            go_simp
            exact hK_.out _ _ _ (by first | rfl | (simp only [Act.put, List.setIfInBounds_toArray, List.set_cons_zero, List.set_cons_succ, hd_]; done) | (simp only [Act.put, List.setIfInBounds_toArray, List.set_cons_zero, List.set_cons_succ, hd_]; rfl)) (Below.refl _ _) rfl (fun h => by cases h)
          · intro w0_ hF_ hd_ Q_ K_ hK_
            have hc0_ := (bcell hF_).1
            have hf0_ := (bcell hF_).2
            have hz0_ := hF_.size; (try simp at hz0_)
            (try simp at hc0_ hf0_)
            have : w.heap.size < w0_.heap.size := by omega
            have : w.heap.size + 1 < w0_.heap.size := by omega
            have : b8u3 < w0_.heap.size := by omega
            have : b9u3 < w0_.heap.size := by omega
            have : b10u3 < w0_.heap.size := by omega
            simp only [DepsR, Region.binds, Nat.zero_add, Nat.reduceAdd, true_implies, Bool.false_eq_true, false_implies, and_true, true_and, BEq.rfl, reduceCtorEq] at hd_
            go_simp
            exact hK_.out _ _ _ (by first | rfl | (simp only [Act.put, List.setIfInBounds_toArray, List.set_cons_zero, List.set_cons_succ, hd_]; done) | (simp only [Act.put, List.setIfInBounds_toArray, List.set_cons_zero, List.set_cons_succ, hd_]; rfl)) (Below.refl _ _) rfl (fun h => by cases h)
          · intro w0_ hF_ hd_ Q_ K_ hK_
            have hc0_ := (bcell hF_).1
            have hf0_ := (bcell hF_).2
            have hz0_ := hF_.size; (try simp at hz0_)
            (try simp at hc0_ hf0_)
            have : w.heap.size < w0_.heap.size := by omega
            have : w.heap.size + 1 < w0_.heap.size := by omega
            have : b8u3 < w0_.heap.size := by omega
            have : b9u3 < w0_.heap.size := by omega
            have : b10u3 < w0_.heap.size := by omega
            simp only [DepsR, Region.binds, Nat.zero_add, Nat.reduceAdd, true_implies, Bool.false_eq_true, false_implies, and_true, true_and, BEq.rfl, reduceCtorEq] at hd_
            go_simp
            exact hK_.out _ _ _ (by first | rfl | (simp only [Act.put, List.setIfInBounds_toArray, List.set_cons_zero, List.set_cons_succ, hd_]; done) | (simp only [Act.put, List.setIfInBounds_toArray, List.set_cons_zero, List.set_cons_succ, hd_]; rfl)) (Below.refl _ _) rfl (fun h => by cases h)
          · intro w0_ hF_ hd_ Q_ K_ hK_
            have hc0_ := (bcell hF_).1
            have hf0_ := (bcell hF_).2
            have hz0_ := hF_.size; (try simp at hz0_)
            (try simp at hc0_ hf0_)
            have : w.heap.size < w0_.heap.size := by omega
            have : w.heap.size + 1 < w0_.heap.size := by omega
            have : b8u3 < w0_.heap.size := by omega
            have : b9u3 < w0_.heap.size := by omega
            have : b10u3 < w0_.heap.size := by omega
            simp only [DepsR, Region.binds, Nat.zero_add, Nat.reduceAdd, true_implies, Bool.false_eq_true, false_implies, and_true, true_and, BEq.rfl, reduceCtorEq] at hd_
            go_simp
            exact hK_.out _ _ _ (by first | rfl | (simp only [Act.put, List.setIfInBounds_toArray, List.set_cons_zero, List.set_cons_succ, hd_]; done) | (simp only [Act.put, List.setIfInBounds_toArray, List.set_cons_zero, List.set_cons_succ, hd_]; rfl)) (Below.refl _ _) rfl (fun h => by cases h)
          · intro w0_ hF_ hd_ Q_ K_ hK_
            have hc0_ := (bcell hF_).1
            have hf0_ := (bcell hF_).2
            have hz0_ := hF_.size; (try simp at hz0_)
            (try simp at hc0_ hf0_)
            have : w.heap.size < w0_.heap.size := by omega
            have : w.heap.size + 1 < w0_.heap.size := by omega
            have : b8u3 < w0_.heap.size := by omega
            have : b9u3 < w0_.heap.size := by omega
            have : b10u3 < w0_.heap.size := by omega
            simp only [DepsR, Region.binds, Nat.zero_add, Nat.reduceAdd, true_implies, Bool.false_eq_true, false_implies, and_true, true_and, BEq.rfl, reduceCtorEq] at hd_
            go_simp
            exact hK_.out _ _ _ (by first | rfl | (simp only [Act.put, List.setIfInBounds_toArray, List.set_cons_zero, List.set_cons_succ, hd_]; done) | (simp only [Act.put, List.setIfInBounds_toArray, List.set_cons_zero, List.set_cons_succ, hd_]; rfl)) (Below.refl _ _) rfl (fun h => by cases h)
          · intro w0_ hF_ hd_ Q_ K_ hK_
            have hc0_ := (bcell hF_).1
            have hf0_ := (bcell hF_).2
            have hz0_ := hF_.size; (try simp at hz0_)
            (try simp at hc0_ hf0_)
            have : w.heap.size < w0_.heap.size := by omega
            have : w.heap.size + 1 < w0_.heap.size := by omega
            have : b8u3 < w0_.heap.size := by omega
            have : b9u3 < w0_.heap.size := by omega
            have : b10u3 < w0_.heap.size := by omega
            simp only [DepsR, Region.binds, Nat.zero_add, Nat.reduceAdd, true_implies, Bool.false_eq_true, false_implies, and_true, true_and, BEq.rfl, reduceCtorEq] at hd_
            go_simp
            exact hK_.out _ _ _ (by first | rfl | (simp only [Act.put, List.setIfInBounds_toArray, List.set_cons_zero, List.set_cons_succ, hd_]; done) | (simp only [Act.put, List.setIfInBounds_toArray, List.set_cons_zero, List.set_cons_succ, hd_]; rfl)) (Below.refl _ _) rfl (fun h => by cases h)
          · intro w0_ hF_ hd_ Q_ K_ hK_
            have hc0_ := (bcell hF_).1
            have hf0_ := (bcell hF_).2
            have hz0_ := hF_.size; (try simp at hz0_)
            (try simp at hc0_ hf0_)
            have : w.heap.size < w0_.heap.size := by omega
            have : w.heap.size + 1 < w0_.heap.size := by omega
            have : b8u3 < w0_.heap.size := by omega
            have : b9u3 < w0_.heap.size := by omega
            have : b10u3 < w0_.heap.size := by omega
            simp only [DepsR, Region.binds, Nat.zero_add, Nat.reduceAdd, true_implies, Bool.false_eq_true, false_implies, and_true, true_and, BEq.rfl, reduceCtorEq] at hd_
            go_simp
            refine (H5.out _).mono ?_
            rintro e_ w1_ ⟨rfl, hb_⟩
            exact hK_.out _ _ _ (by first | rfl | (simp only [Act.put, List.setIfInBounds_toArray, List.set_cons_zero, List.set_cons_succ, hd_]; done) | (simp only [Act.put, List.setIfInBounds_toArray, List.set_cons_zero, List.set_cons_succ, hd_]; rfl)) hb_ rfl (fun h => by cases h)
          · intro w0_ hF_ hd_ Q_ K_ hK_
            have hc0_ := (bcell hF_).1
            have hf0_ := (bcell hF_).2
            have hz0_ := hF_.size; (try simp at hz0_)
            (try simp at hc0_ hf0_)
            have : w.heap.size < w0_.heap.size := by omega
            have : w.heap.size + 1 < w0_.heap.size := by omega
            have : b8u3 < w0_.heap.size := by omega
            have : b9u3 < w0_.heap.size := by omega
            have : b10u3 < w0_.heap.size := by omega
            simp only [DepsR, Region.binds, Nat.zero_add, Nat.reduceAdd, true_implies, Bool.false_eq_true, false_implies, and_true, true_and, BEq.rfl, reduceCtorEq] at hd_
            go_simp
            exact hK_.out _ _ _ (by first | rfl | (simp only [Act.put, List.setIfInBounds_toArray, List.set_cons_zero, List.set_cons_succ, hd_]; done) | (simp only [Act.put, List.setIfInBounds_toArray, List.set_cons_zero, List.set_cons_succ, hd_]; rfl)) (Below.refl _ _) rfl (fun h => by cases h)
          · intro w0_ hF_ hd_ Q_ K_ hK_
            have hc0_ := (bcell hF_).1
            have hf0_ := (bcell hF_).2
            have hz0_ := hF_.size; (try simp at hz0_)
            (try simp at hc0_ hf0_)
            have : w.heap.size < w0_.heap.size := by omega
            have : w.heap.size + 1 < w0_.heap.size := by omega
            have : b8u3 < w0_.heap.size := by omega
            have : b9u3 < w0_.heap.size := by omega
            have : b10u3 < w0_.heap.size := by omega
            simp only [DepsR, Region.binds, Nat.zero_add, Nat.reduceAdd, true_implies, Bool.false_eq_true, false_implies, and_true, true_and, BEq.rfl, reduceCtorEq] at hd_
            go_simp
            exact hK_.out _ _ _ (by first | rfl | (simp only [Act.put, List.setIfInBounds_toArray, List.set_cons_zero, List.set_cons_succ, hd_]; done) | (simp only [Act.put, List.setIfInBounds_toArray, List.set_cons_zero, List.set_cons_succ, hd_]; rfl)) (Below.refl _ _) rfl (fun h => by cases h)
          · intro w0_ hF_ hd_ Q_ K_ hK_
            have hc0_ := (bcell hF_).1
            have hf0_ := (bcell hF_).2
            have hz0_ := hF_.size; (try simp at hz0_)
            (try simp at hc0_ hf0_)
            have : w.heap.size < w0_.heap.size := by omega
            have : w.heap.size + 1 < w0_.heap.size := by omega
            have : b8u3 < w0_.heap.size := by omega
            have : b9u3 < w0_.heap.size := by omega
            have : b10u3 < w0_.heap.size := by omega
            simp only [DepsR, Region.binds, Nat.zero_add, Nat.reduceAdd, true_implies, Bool.false_eq_true, false_implies, and_true, true_and, BEq.rfl, reduceCtorEq] at hd_
            go_simp
            refine (H3.out _).mono ?_
            rintro e_ w1_ ⟨rfl, hb_⟩
            exact hK_.out _ _ _ (by first | rfl | (simp only [Act.put, List.setIfInBounds_toArray, List.set_cons_zero, List.set_cons_succ, hd_]; done) | (simp only [Act.put, List.setIfInBounds_toArray, List.set_cons_zero, List.set_cons_succ, hd_]; rfl)) hb_ rfl (fun h => by cases h)
          · intro w0_ hF_ hd_ Q_ K_ hK_
            have hc0_ := (bcell hF_).1
            have hf0_ := (bcell hF_).2
            have hz0_ := hF_.size; (try simp at hz0_)
            (try simp at hc0_ hf0_)
            have : w.heap.size < w0_.heap.size := by omega
            have : w.heap.size + 1 < w0_.heap.size := by omega
            have : b8u3 < w0_.heap.size := by omega
            have : b9u3 < w0_.heap.size := by omega
            have : b10u3 < w0_.heap.size := by omega
            simp only [DepsR, Region.binds, Nat.zero_add, Nat.reduceAdd, true_implies, Bool.false_eq_true, false_implies, and_true, true_and, BEq.rfl, reduceCtorEq] at hd_
            go_simp
            exact hK_.out _ _ _ (by first | rfl | (simp only [Act.put, List.setIfInBounds_toArray, List.set_cons_zero, List.set_cons_succ, hd_]; done) | (simp only [Act.put, List.setIfInBounds_toArray, List.set_cons_zero, List.set_cons_succ, hd_]; rfl)) (Below.refl _ _) rfl (fun h => by cases h)
          · intro w0_ hF_ hd_ Q_ K_ hK_
            have hc0_ := (bcell hF_).1
            have hf0_ := (bcell hF_).2
            have hz0_ := hF_.size; (try simp at hz0_)
            (try simp at hc0_ hf0_)
            have : w.heap.size < w0_.heap.size := by omega
            have : w.heap.size + 1 < w0_.heap.size := by omega
            have : b8u3 < w0_.heap.size := by omega
            have : b9u3 < w0_.heap.size := by omega
            have : b10u3 < w0_.heap.size := by omega
            simp only [DepsR, Region.binds, Nat.zero_add, Nat.reduceAdd, true_implies, Bool.false_eq_true, false_implies, and_true, true_and, BEq.rfl, reduceCtorEq] at hd_
            go_simp
            exact hK_.out _ _ _ (by first | rfl | (simp only [Act.put, List.setIfInBounds_toArray, List.set_cons_zero, List.set_cons_succ, hd_]; done) | (simp only [Act.put, List.setIfInBounds_toArray, List.set_cons_zero, List.set_cons_succ, hd_]; rfl)) (Below.refl _ _) rfl (fun h => by cases h)
          · intro w0_ hF_ hd_ Q_ K_ hK_
            have hc0_ := (bcell hF_).1
            have hf0_ := (bcell hF_).2
            have hz0_ := hF_.size; (try simp at hz0_)
            (try simp at hc0_ hf0_)
            have : w.heap.size < w0_.heap.size := by omega
            have : w.heap.size + 1 < w0_.heap.size := by omega
            have : b8u3 < w0_.heap.size := by omega
            have : b9u3 < w0_.heap.size := by omega
            have : b10u3 < w0_.heap.size := by omega
            simp only [DepsR, Region.binds, Nat.zero_add, Nat.reduceAdd, true_implies, Bool.false_eq_true, false_implies, and_true, true_and, BEq.rfl, reduceCtorEq] at hd_
            go_simp
            exact hK_.out _ _ _ (by first | rfl | (simp only [Act.put, List.setIfInBounds_toArray, List.set_cons_zero, List.set_cons_succ, hd_]; done) | (simp only [Act.put, List.setIfInBounds_toArray, List.set_cons_zero, List.set_cons_succ, hd_]; rfl)) (Below.refl _ _) rfl (fun h => by cases h)
          · intro w0_ hF_ hd_ Q_ K_ hK_
            have hc0_ := (bcell hF_).1
            have hf0_ := (bcell hF_).2
            have hz0_ := hF_.size; (try simp at hz0_)
            (try simp at hc0_ hf0_)
            have : w.heap.size < w0_.heap.size := by omega
            have : w.heap.size + 1 < w0_.heap.size := by omega
            have : b8u3 < w0_.heap.size := by omega
            have : b9u3 < w0_.heap.size := by omega
            have : b10u3 < w0_.heap.size := by omega
            simp only [DepsR, Region.binds, Nat.zero_add, Nat.reduceAdd, true_implies, Bool.false_eq_true, false_implies, and_true, true_and, BEq.rfl, reduceCtorEq] at hd_
            go_simp
            exact hK_.out _ _ _ (by first | rfl | (simp only [Act.put, List.setIfInBounds_toArray, List.set_cons_zero, List.set_cons_succ, hd_]; done) | (simp only [Act.put, List.setIfInBounds_toArray, List.set_cons_zero, List.set_cons_succ, hd_]; rfl)) (Below.refl _ _) rfl (fun h => by cases h)
          · intro w0_ hF_ hd_ Q_ K_ hK_
            have hc0_ := (bcell hF_).1
            have hf0_ := (bcell hF_).2
            have hz0_ := hF_.size; (try simp at hz0_)
            (try simp at hc0_ hf0_)
            have : w.heap.size < w0_.heap.size := by omega
            have : w.heap.size + 1 < w0_.heap.size := by omega
            have : b8u3 < w0_.heap.size := by omega
            have : b9u3 < w0_.heap.size := by omega
            have : b10u3 < w0_.heap.size := by omega
            simp only [DepsR, Region.binds, Nat.zero_add, Nat.reduceAdd, true_implies, Bool.false_eq_true, false_implies, and_true, true_and, BEq.rfl, reduceCtorEq] at hd_
            go_simp
            refine (N2.out _).mono ?_
            rintro e_ w1_ ⟨rfl, hb_⟩
            exact hK_.out _ _ _ (by first | rfl | (simp only [Act.put, List.setIfInBounds_toArray, List.set_cons_zero, List.set_cons_succ, hd_]; done) | (simp only [Act.put, List.setIfInBounds_toArray, List.set_cons_zero, List.set_cons_succ, hd_]; rfl)) hb_ rfl (fun h => by cases h)
          · intro w0_ hF_ hd_ Q_ K_ hK_
            have hc0_ := (bcell hF_).1
            have hf0_ := (bcell hF_).2
            have hz0_ := hF_.size; (try simp at hz0_)
            (try simp at hc0_ hf0_)
            have : w.heap.size < w0_.heap.size := by omega
            have : w.heap.size + 1 < w0_.heap.size := by omega
            have : b8u3 < w0_.heap.size := by omega
            have : b9u3 < w0_.heap.size := by omega
            have : b10u3 < w0_.heap.size := by omega
            simp only [DepsR, Region.binds, Nat.zero_add, Nat.reduceAdd, true_implies, Bool.false_eq_true, false_implies, and_true, true_and, BEq.rfl, reduceCtorEq] at hd_
            go_simp
            exact hK_.out _ _ _ (by first | rfl | (simp only [Act.put, List.setIfInBounds_toArray, List.set_cons_zero, List.set_cons_succ, hd_]; done) | (simp only [Act.put, List.setIfInBounds_toArray, List.set_cons_zero, List.set_cons_succ, hd_]; rfl)) (Below.refl _ _) rfl (fun h => by cases h)
          · intro w0_ hF_ hd_ Q_ K_ hK_
            have hc0_ := (bcell hF_).1
            have hf0_ := (bcell hF_).2
            have hz0_ := hF_.size; (try simp at hz0_)
            (try simp at hc0_ hf0_)
            have : w.heap.size < w0_.heap.size := by omega
            have : w.heap.size + 1 < w0_.heap.size := by omega
            have : b8u3 < w0_.heap.size := by omega
            have : b9u3 < w0_.heap.size := by omega
            have : b10u3 < w0_.heap.size := by omega
            simp only [DepsR, Region.binds, Nat.zero_add, Nat.reduceAdd, true_implies, Bool.false_eq_true, false_implies, and_true, true_and, BEq.rfl, reduceCtorEq] at hd_
            go_simp
            exact hK_.out _ _ _ (by first | rfl | (simp only [Act.put, List.setIfInBounds_toArray, List.set_cons_zero, List.set_cons_succ, hd_]; done) | (simp only [Act.put, List.setIfInBounds_toArray, List.set_cons_zero, List.set_cons_succ, hd_]; rfl)) (Below.refl _ _) rfl (fun h => by cases h)
          · intro w0_ hF_ hd_ Q_ K_ hK_
            have hc0_ := (bcell hF_).1
            have hf0_ := (bcell hF_).2
            have hz0_ := hF_.size; (try simp at hz0_)
            (try simp at hc0_ hf0_)
            have : w.heap.size < w0_.heap.size := by omega
            have : w.heap.size + 1 < w0_.heap.size := by omega
            have : b8u3 < w0_.heap.size := by omega
            have : b9u3 < w0_.heap.size := by omega
            have : b10u3 < w0_.heap.size := by omega
            simp only [DepsR, Region.binds, Nat.zero_add, Nat.reduceAdd, true_implies, Bool.false_eq_true, false_implies, and_true, true_and, BEq.rfl, reduceCtorEq] at hd_
            go_simp
            exact hK_.out _ _ _ (by first | rfl | (simp only [Act.put, List.setIfInBounds_toArray, List.set_cons_zero, List.set_cons_succ, hd_]; done) | (simp only [Act.put, List.setIfInBounds_toArray, List.set_cons_zero, List.set_cons_succ, hd_]; rfl)) (Below.refl _ _) rfl (fun h => by cases h)
        · intro vs u4 hBu4 hA_ hD_
          simp only [AllR, Nat.zero_add, Nat.reduceAdd, and_true] at hA_
          obtain ⟨r0_, r1_, r2_, r3_, r4_, r5_, r6_, r7_, r8_, r9_, r10_, r11_, r12_, r13_, r14_, r15_, r16_, r17_, r18_, r19_, r20_, r21_, r22_, r23_, r24_, r25_, r26_, r27_, r28_, r29_, r30_, r31_, r32_, r33_, r34_, r35_, r36_, r37_, r38_, r39_, r40_⟩ := hA_
          clear hD_
          simp only [putAll, Act.put, List.setIfInBounds_toArray, List.set_cons_zero, List.set_cons_succ, Nat.zero_add, Nat.reduceAdd, r0_, r1_, r2_, r3_, r4_, r5_, r6_, r7_, r8_, r9_, r10_, r11_, r12_, r13_, r14_, r15_, r16_, r17_, r18_, r19_, r20_, r21_, r22_, r23_, r24_, r25_, r26_, r27_, r28_, r29_, r30_, r31_, r32_, r33_, r34_, r35_, r36_, r37_, r38_, r39_, r40_]
          clear r0_ r1_ r2_ r3_ r4_ r5_ r6_ r7_ r8_ r9_ r10_ r11_ r12_ r13_ r14_ r15_ r16_ r17_ r18_ r19_ r20_ r21_ r22_ r23_ r24_ r25_ r26_ r27_ r28_ r29_ r30_ r31_ r32_ r33_ r34_ r35_ r36_ r37_ r38_ r39_ r40_
          obtain ⟨hcu4, hfu4⟩ := bcell hBu4; (try simp only [World.size_drew, World.cell?_drew, World.frozen?_drew] at hcu4 hfu4); have hzu4 := hBu4.size; (try simp at hzu4)
          have : w.heap.size < u4.heap.size := by omega
          have : w.heap.size + 1 < u4.heap.size := by omega
          have : b8u3 < u4.heap.size := by omega
          have : b9u3 < u4.heap.size := by omega
          have : b10u3 < u4.heap.size := by omega
          go_wp2_with fail
          go_meet
          case rel => exact ⟨rfl, hBu4⟩
      · skip
        refine wp_region_keep (t := fun j => j) (al := fun _ => false) (loud := fun _ => false)
          (R := fun j v u w' => match j with
            | 0 => v = setV r
            | 1 => v = .int .u8 (c : Int)
            | 2 => v = .bool (true && br)
            | 3 => v = .int .u8 (fa : Int)
            | 4 => v = .int .u8 (c : Int)
            | 5 => v = .bool true
            | 6 => v = .bool true
            | 7 => v = .int .u8 (c : Int)
            | 8 => v = .int .u8 (fb : Int)
            | 9 => v = .bool br
            | 10 => v = .bool br
            | 11 => v = .bool false
            | 12 => v = .bool false
            | 13 => v = setV o
            | 14 => v = .int .u8 (c : Int)
            | 15 => v = .bool (false || qc)
            | 16 => v = setV p
            | 17 => v = .int .u8 (c : Int)
            | 18 => v = .bool false
            | 19 => v = .bool false
            | 20 => v = setV q
            | 21 => v = .int .u8 (c : Int)
            | 22 => v = .bool qc
            | 23 => v = .bool qc
            | 24 => v = .bool false
            | 25 => v = .bool false
            | 26 => v = .bool false
            | 27 => v = setV n
            | 28 => v = .int .u8 (c : Int)
            | 29 => v = .bool (!false)
            | 30 => v = setV p
            | 31 => v = .int .u8 (c : Int)
            | 32 => v = .bool false
            | 33 => v = .bool false
            | 34 => v = .bool false
            | 35 => v = .bool false
            | 36 => v = setV n
            | 37 => v = setV p
            | 38 => v = setV p
            | 39 => v = .bool false
            | 40 => v = .bool false
            | _ => True) (by kernel_rfl) (by kernel_rfl) (by kernel_rfl) ?_ ?_ ?_ ?_
        · intro j v u w1_ w2_ h_ hF_ hB_
          (try dsimp only at h_ ⊢)
          split at h_ <;> first | (with_reducible exact h_) | (with_reducible exact NewR.on h_ hB_) | (with_reducible exact HasR.on h_ hB_) | exact IsNum.on h_ hB_ | exact HasNum.on h_ hB_ | exact RHeld.on h_ hB_ | trivial | exact h_
        · intro j v u w1_ h1_ h_
          cases h1_
        · intro vs
          simp only [putAll, Act.put, List.setIfInBounds_toArray, List.set_cons_zero, List.set_cons_succ, Nat.zero_add, Nat.reduceAdd]
          refine ⟨?_, ?_, ?_, ?_, ?_, ?_, ?_, ?_, ?_, ?_, ?_, ?_, ?_, ?_, ?_, ?_, ?_, ?_, ?_, ?_, ?_, ?_, ?_, ?_, ?_, ?_, ?_, ?_, ?_, ?_, ?_, ?_, ?_, ?_, ?_, ?_, ?_, ?_, ?_, ?_, ?_, trivial⟩
          · intro w0_ hF_ hd_ Q_ K_ hK_
            have hc0_ := (bcell hF_).1
            have hf0_ := (bcell hF_).2
            have hz0_ := hF_.size; (try simp at hz0_)
            (try simp at hc0_ hf0_)
            have : w.heap.size < w0_.heap.size := by omega
            have : w.heap.size + 1 < w0_.heap.size := by omega
            have : b8u3 < w0_.heap.size := by omega
            have : b9u3 < w0_.heap.size := by omega
            have : b10u3 < w0_.heap.size := by omega
            simp only [DepsR, Region.binds, Nat.zero_add, Nat.reduceAdd, true_implies, Bool.false_eq_true, false_implies, and_true, true_and, BEq.rfl, reduceCtorEq] at hd_
            go_simp
            exact hK_.out _ _ _ (by first | rfl | (simp only [Act.put, List.setIfInBounds_toArray, List.set_cons_zero, List.set_cons_succ, hd_]; done) | (simp only [Act.put, List.setIfInBounds_toArray, List.set_cons_zero, List.set_cons_succ, hd_]; rfl)) (Below.refl _ _) rfl (fun h => by cases h)
          · intro w0_ hF_ hd_ Q_ K_ hK_
            have hc0_ := (bcell hF_).1
            have hf0_ := (bcell hF_).2
            have hz0_ := hF_.size; (try simp at hz0_)
            (try simp at hc0_ hf0_)
            have : w.heap.size < w0_.heap.size := by omega
            have : w.heap.size + 1 < w0_.heap.size := by omega
            have : b8u3 < w0_.heap.size := by omega
            have : b9u3 < w0_.heap.size := by omega
            have : b10u3 < w0_.heap.size := by omega
            simp only [DepsR, Region.binds, Nat.zero_add, Nat.reduceAdd, true_implies, Bool.false_eq_true, false_implies, and_true, true_and, BEq.rfl, reduceCtorEq] at hd_
            go_simp
            exact hK_.out _ _ _ (by first | rfl | (simp only [Act.put, List.setIfInBounds_toArray, List.set_cons_zero, List.set_cons_succ, hd_]; done) | (simp only [Act.put, List.setIfInBounds_toArray, List.set_cons_zero, List.set_cons_succ, hd_]; rfl)) (Below.refl _ _) rfl (fun h => by cases h)
          · intro w0_ hF_ hd_ Q_ K_ hK_
            have hc0_ := (bcell hF_).1
            have hf0_ := (bcell hF_).2
            have hz0_ := hF_.size; (try simp at hz0_)
            (try simp at hc0_ hf0_)
            have : w.heap.size < w0_.heap.size := by omega
            have : w.heap.size + 1 < w0_.heap.size := by omega
            have : b8u3 < w0_.heap.size := by omega
            have : b9u3 < w0_.heap.size := by omega
            have : b10u3 < w0_.heap.size := by omega
            simp only [DepsR, Region.binds, Nat.zero_add, Nat.reduceAdd, true_implies, Bool.false_eq_true, false_implies, and_true, true_and, BEq.rfl, reduceCtorEq] at hd_
            go_simp
            refine (H1.out _).mono ?_
            rintro e_ w1_ ⟨rfl, hb_⟩
            exact hK_.out _ _ _ (by first | rfl | (simp only [Act.put, List.setIfInBounds_toArray, List.set_cons_zero, List.set_cons_succ, hd_]; done) | (simp only [Act.put, List.setIfInBounds_toArray, List.set_cons_zero, List.set_cons_succ, hd_]; rfl)) hb_ rfl (fun h => by cases h)
          · intro w0_ hF_ hd_ Q_ K_ hK_
            have hc0_ := (bcell hF_).1
            have hf0_ := (bcell hF_).2
            have hz0_ := hF_.size; (try simp at hz0_)
            (try simp at hc0_ hf0_)
            have : w.heap.size < w0_.heap.size := by omega
            have : w.heap.size + 1 < w0_.heap.size := by omega
            have : b8u3 < w0_.heap.size := by omega
            have : b9u3 < w0_.heap.size := by omega
            have : b10u3 < w0_.heap.size := by omega
            simp only [DepsR, Region.binds, Nat.zero_add, Nat.reduceAdd, true_implies, Bool.false_eq_true, false_implies, and_true, true_and, BEq.rfl, reduceCtorEq] at hd_
            go_simp
            exact hK_.out _ _ _ (by first | rfl | (simp only [Act.put, List.setIfInBounds_toArray, List.set_cons_zero, List.set_cons_succ, hd_]; done) | (simp only [Act.put, List.setIfInBounds_toArray, List.set_cons_zero, List.set_cons_succ, hd_]; rfl)) (Below.refl _ _) rfl (fun h => by cases h)
          · intro w0_ hF_ hd_ Q_ K_ hK_
            have hc0_ := (bcell hF_).1
            have hf0_ := (bcell hF_).2
            have hz0_ := hF_.size; (try simp at hz0_)
            (try simp at hc0_ hf0_)
            have : w.heap.size < w0_.heap.size := by omega
            have : w.heap.size + 1 < w0_.heap.size := by omega
            have : b8u3 < w0_.heap.size := by omega
            have : b9u3 < w0_.heap.size := by omega
            have : b10u3 < w0_.heap.size := by omega
            simp only [DepsR, Region.binds, Nat.zero_add, Nat.reduceAdd, true_implies, Bool.false_eq_true, false_implies, and_true, true_and, BEq.rfl, reduceCtorEq] at hd_
            go_simp
            exact hK_.out _ _ _ (by first | rfl | (simp only [Act.put, List.setIfInBounds_toArray, List.set_cons_zero, List.set_cons_succ, hd_]; done) | (simp only [Act.put, List.setIfInBounds_toArray, List.set_cons_zero, List.set_cons_succ, hd_]; rfl)) (Below.refl _ _) rfl (fun h => by cases h)
          · intro w0_ hF_ hd_ Q_ K_ hK_
            have hc0_ := (bcell hF_).1
            have hf0_ := (bcell hF_).2
            have hz0_ := hF_.size; (try simp at hz0_)
            (try simp at hc0_ hf0_)
            have : w.heap.size < w0_.heap.size := by omega
            have : w.heap.size + 1 < w0_.heap.size := by omega
            have : b8u3 < w0_.heap.size := by omega
            have : b9u3 < w0_.heap.size := by omega
            have : b10u3 < w0_.heap.size := by omega
            simp only [DepsR, Region.binds, Nat.zero_add, Nat.reduceAdd, true_implies, Bool.false_eq_true, false_implies, and_true, true_and, BEq.rfl, reduceCtorEq] at hd_
            go_simp
            exact hK_.out _ _ _ (by first | rfl | (simp only [Act.put, List.setIfInBounds_toArray, List.set_cons_zero, List.set_cons_succ, hd_]; done) | (simp only [Act.put, List.setIfInBounds_toArray, List.set_cons_zero, List.set_cons_succ, hd_]; rfl)) (Below.refl _ _) rfl (fun h => by cases h)
          · intro w0_ hF_ hd_ Q_ K_ hK_
            have hc0_ := (bcell hF_).1
            have hf0_ := (bcell hF_).2
            have hz0_ := hF_.size; (try simp at hz0_)
            (try simp at hc0_ hf0_)
            have : w.heap.size < w0_.heap.size := by omega
            have : w.heap.size + 1 < w0_.heap.size := by omega
            have : b8u3 < w0_.heap.size := by omega
            have : b9u3 < w0_.heap.size := by omega
            have : b10u3 < w0_.heap.size := by omega
            simp only [DepsR, Region.binds, Nat.zero_add, Nat.reduceAdd, true_implies, Bool.false_eq_true, false_implies, and_true, true_and, BEq.rfl, reduceCtorEq] at hd_
            go_simp
            exact hK_.out _ _ _ (by first | rfl | (simp only [Act.put, List.setIfInBounds_toArray, List.set_cons_zero, List.set_cons_succ, hd_]; done) | (simp only [Act.put, List.setIfInBounds_toArray, List.set_cons_zero, List.set_cons_succ, hd_]; rfl)) (Below.refl _ _) rfl (fun h => by cases h)
          · intro w0_ hF_ hd_ Q_ K_ hK_
            have hc0_ := (bcell hF_).1
            have hf0_ := (bcell hF_).2
            have hz0_ := hF_.size; (try simp at hz0_)
            (try simp at hc0_ hf0_)
            have : w.heap.size < w0_.heap.size := by omega
            have : w.heap.size + 1 < w0_.heap.size := by omega
            have : b8u3 < w0_.heap.size := by omega
            have : b9u3 < w0_.heap.size := by omega
            have : b10u3 < w0_.heap.size := by omega
            simp only [DepsR, Region.binds, Nat.zero_add, Nat.reduceAdd, true_implies, Bool.false_eq_true, false_implies, and_true, true_and, BEq.rfl, reduceCtorEq] at hd_
            go_simp
            exact hK_.out _ _ _ (by first | rfl | (simp only [Act.put, List.setIfInBounds_toArray, List.set_cons_zero, List.set_cons_succ, hd_]; done) | (simp only [Act.put, List.setIfInBounds_toArray, List.set_cons_zero, List.set_cons_succ, hd_]; rfl)) (Below.refl _ _) rfl (fun h => by cases h)
          · intro w0_ hF_ hd_ Q_ K_ hK_
            have hc0_ := (bcell hF_).1
            have hf0_ := (bcell hF_).2
            have hz0_ := hF_.size; (try simp at hz0_)
            (try simp at hc0_ hf0_)
            have : w.heap.size < w0_.heap.size := by omega
            have : w.heap.size + 1 < w0_.heap.size := by omega
            have : b8u3 < w0_.heap.size := by omega
            have : b9u3 < w0_.heap.size := by omega
            have : b10u3 < w0_.heap.size := by omega
            simp only [DepsR, Region.binds, Nat.zero_add, Nat.reduceAdd, true_implies, Bool.false_eq_true, false_implies, and_true, true_and, BEq.rfl, reduceCtorEq] at hd_
            go_simp
            exact hK_.out _ _ _ (by first | rfl | (simp only [Act.put, List.setIfInBounds_toArray, List.set_cons_zero, List.set_cons_succ, hd_]; done) | (simp only [Act.put, List.setIfInBounds_toArray, List.set_cons_zero, List.set_cons_succ, hd_]; rfl)) (Below.refl _ _) rfl (fun h => by cases h)
          · intro w0_ hF_ hd_ Q_ K_ hK_
            have hc0_ := (bcell hF_).1
            have hf0_ := (bcell hF_).2
            have hz0_ := hF_.size; (try simp at hz0_)
            (try simp at hc0_ hf0_)
            have : w.heap.size < w0_.heap.size := by omega
            have : w.heap.size + 1 < w0_.heap.size := by omega
            have : b8u3 < w0_.heap.size := by omega
            have : b9u3 < w0_.heap.size := by omega
            have : b10u3 < w0_.heap.size := by omega
            simp only [DepsR, Region.binds, Nat.zero_add, Nat.reduceAdd, true_implies, Bool.false_eq_true, false_implies, and_true, true_and, BEq.rfl, reduceCtorEq] at hd_
            go_simp
            exact hK_.out _ _ _ (by first | rfl | (simp only [Act.put, List.setIfInBounds_toArray, List.set_cons_zero, List.set_cons_succ, hd_]; done) | (simp only [Act.put, List.setIfInBounds_toArray, List.set_cons_zero, List.set_cons_succ, hd_]; rfl)) (Below.refl _ _) rfl (fun h => by cases h)
          · intro w0_ hF_ hd_ Q_ K_ hK_
            have hc0_ := (bcell hF_).1
            have hf0_ := (bcell hF_).2
            have hz0_ := hF_.size; (try simp at hz0_)
            (try simp at hc0_ hf0_)
            have : w.heap.size < w0_.heap.size := by omega
            have : w.heap.size + 1 < w0_.heap.size := by omega
            have : b8u3 < w0_.heap.size := by omega
            have : b9u3 < w0_.heap.size := by omega
            have : b10u3 < w0_.heap.size := by omega
            simp only [DepsR, Region.binds, Nat.zero_add, Nat.reduceAdd, true_implies, Bool.false_eq_true, false_implies, and_true, true_and, BEq.rfl, reduceCtorEq] at hd_
            go_simp
            exact hK_.out _ _ _ (by first | rfl | (simp only [Act.put, List.setIfInBounds_toArray, List.set_cons_zero, List.set_cons_succ, hd_]; done) | (simp only [Act.put, List.setIfInBounds_toArray, List.set_cons_zero, List.set_cons_succ, hd_]; rfl)) (Below.refl _ _) rfl (fun h => by cases h)
          · intro w0_ hF_ hd_ Q_ K_ hK_
            have hc0_ := (bcell hF_).1
            have hf0_ := (bcell hF_).2
            have hz0_ := hF_.size; (try simp at hz0_)
            (try simp at hc0_ hf0_)
            have : w.heap.size < w0_.heap.size := by omega
            have : w.heap.size + 1 < w0_.heap.size := by omega
            have : b8u3 < w0_.heap.size := by omega
            have : b9u3 < w0_.heap.size := by omega
            have : b10u3 < w0_.heap.size := by omega
            simp only [DepsR, Region.binds, Nat.zero_add, Nat.reduceAdd, true_implies, Bool.false_eq_true, false_implies, and_true, true_and, BEq.rfl, reduceCtorEq] at hd_
            go_simp
            exact hK_.out _ _ _ (by first | rfl | (simp only [Act.put, List.setIfInBounds_toArray, List.set_cons_zero, List.set_cons_succ, hd_]; done) | (simp only [Act.put, List.setIfInBounds_toArray, List.set_cons_zero, List.set_cons_succ, hd_]; rfl)) (Below.refl _ _) rfl (fun h => by cases h)
          · intro w0_ hF_ hd_ Q_ K_ hK_
            have hc0_ := (bcell hF_).1
            have hf0_ := (bcell hF_).2
            have hz0_ := hF_.size; (try simp at hz0_)
            (try simp at hc0_ hf0_)
            have : w.heap.size < w0_.heap.size := by omega
            have : w.heap.size + 1 < w0_.heap.size := by omega
            have : b8u3 < w0_.heap.size := by omega
            have : b9u3 < w0_.heap.size := by omega
            have : b10u3 < w0_.heap.size := by omega
            simp only [DepsR, Region.binds, Nat.zero_add, Nat.reduceAdd, true_implies, Bool.false_eq_true, false_implies, and_true, true_and, BEq.rfl, reduceCtorEq] at hd_
            go_simp
            exact hK_.out _ _ _ (by first | rfl | (simp only [Act.put, List.setIfInBounds_toArray, List.set_cons_zero, List.set_cons_succ, hd_]; done) | (simp only [Act.put, List.setIfInBounds_toArray, List.set_cons_zero, List.set_cons_succ, hd_]; rfl)) (Below.refl _ _) rfl (fun h => by cases h)
          · intro w0_ hF_ hd_ Q_ K_ hK_
            have hc0_ := (bcell hF_).1
            have hf0_ := (bcell hF_).2
            have hz0_ := hF_.size; (try simp at hz0_)
            (try simp at hc0_ hf0_)
            have : w.heap.size < w0_.heap.size := by omega
            have : w.heap.size + 1 < w0_.heap.size := by omega
            have : b8u3 < w0_.heap.size := by omega
            have : b9u3 < w0_.heap.size := by omega
            have : b10u3 < w0_.heap.size := by omega
            simp only [DepsR, Region.binds, Nat.zero_add, Nat.reduceAdd, true_implies, Bool.false_eq_true, false_implies, and_true, true_and, BEq.rfl, reduceCtorEq] at hd_
            go_simp
            exact hK_.out _ _ _ (by first | rfl | (simp only [Act.put, List.setIfInBounds_toArray, List.set_cons_zero, List.set_cons_succ, hd_]; done) | (simp only [Act.put, List.setIfInBounds_toArray, List.set_cons_zero, List.set_cons_succ, hd_]; rfl)) (Below.refl _ _) rfl (fun h => by cases h)
          · intro w0_ hF_ hd_ Q_ K_ hK_
            have hc0_ := (bcell hF_).1
            have hf0_ := (bcell hF_).2
            have hz0_ := hF_.size; (try simp at hz0_)
            (try simp at hc0_ hf0_)
            have : w.heap.size < w0_.heap.size := by omega
            have : w.heap.size + 1 < w0_.heap.size := by omega
            have : b8u3 < w0_.heap.size := by omega
            have : b9u3 < w0_.heap.size := by omega
            have : b10u3 < w0_.heap.size := by omega
            simp only [DepsR, Region.binds, Nat.zero_add, Nat.reduceAdd, true_implies, Bool.false_eq_true, false_implies, and_true, true_and, BEq.rfl, reduceCtorEq] at hd_
            go_simp
            exact hK_.out _ _ _ (by first | rfl | (simp only [Act.put, List.setIfInBounds_toArray, List.set_cons_zero, List.set_cons_succ, hd_]; done) | (simp only [Act.put, List.setIfInBounds_toArray, List.set_cons_zero, List.set_cons_succ, hd_]; rfl)) (Below.refl _ _) rfl (fun h => by cases h)
          · intro w0_ hF_ hd_ Q_ K_ hK_
            have hc0_ := (bcell hF_).1
            have hf0_ := (bcell hF_).2
            have hz0_ := hF_.size; (try simp at hz0_)
            (try simp at hc0_ hf0_)
            have : w.heap.size < w0_.heap.size := by omega
            have : w.heap.size + 1 < w0_.heap.size := by omega
            have : b8u3 < w0_.heap.size := by omega
            have : b9u3 < w0_.heap.size := by omega
            have : b10u3 < w0_.heap.size := by omega
            simp only [DepsR, Region.binds, Nat.zero_add, Nat.reduceAdd, true_implies, Bool.false_eq_true, false_implies, and_true, true_and, BEq.rfl, reduceCtorEq] at hd_
            go_simp
            refine (H2.out _).mono ?_
            rintro e_ w1_ ⟨rfl, hb_⟩
            exact hK_.out _ _ _ (by first | rfl | (simp only [Act.put, List.setIfInBounds_toArray, List.set_cons_zero, List.set_cons_succ, hd_]; done) | (simp only [Act.put, List.setIfInBounds_toArray, List.set_cons_zero, List.set_cons_succ, hd_]; rfl)) hb_ rfl (fun h => by cases h)
          · intro w0_ hF_ hd_ Q_ K_ hK_
            have hc0_ := (bcell hF_).1
            have hf0_ := (bcell hF_).2
            have hz0_ := hF_.size; (try simp at hz0_)
            (try simp at hc0_ hf0_)
            have : w.heap.size < w0_.heap.size := by omega
            have : w.heap.size + 1 < w0_.heap.size := by omega
            have : b8u3 < w0_.heap.size := by omega
            have : b9u3 < w0_.heap.size := by omega
            have : b10u3 < w0_.heap.size := by omega
            simp only [DepsR, Region.binds, Nat.zero_add, Nat.reduceAdd, true_implies, Bool.false_eq_true, false_implies, and_true, true_and, BEq.rfl, reduceCtorEq] at hd_
            go_simp
            exact hK_.out _ _ _ (by first | rfl | (simp only [Act.put, List.setIfInBounds_toArray, List.set_cons_zero, List.set_cons_succ, hd_]; done) | (simp only [Act.put, List.setIfInBounds_toArray, List.set_cons_zero, List.set_cons_succ, hd_]; rfl)) (Below.refl _ _) rfl (fun h => by cases h)
          · intro w0_ hF_ hd_ Q_ K_ hK_
            have hc0_ := (bcell hF_).1
            have hf0_ := (bcell hF_).2
            have hz0_ := hF_.size; (try simp at hz0_)
            (try simp at hc0_ hf0_)
            have : w.heap.size < w0_.heap.size := by omega
            have : w.heap.size + 1 < w0_.heap.size := by omega
            have : b8u3 < w0_.heap.size := by omega
            have : b9u3 < w0_.heap.size := by omega
            have : b10u3 < w0_.heap.size := by omega
            simp only [DepsR, Region.binds, Nat.zero_add, Nat.reduceAdd, true_implies, Bool.false_eq_true, false_implies, and_true, true_and, BEq.rfl, reduceCtorEq] at hd_
            go_simp
            exact hK_.out _ _ _ (by first | rfl | (simp only [Act.put, List.setIfInBounds_toArray, List.set_cons_zero, List.set_cons_succ, hd_]; done) | (simp only [Act.put, List.setIfInBounds_toArray, List.set_cons_zero, List.set_cons_succ, hd_]; rfl)) (Below.refl _ _) rfl (fun h => by cases h)
          · intro w0_ hF_ hd_ Q_ K_ hK_
            have hc0_ := (bcell hF_).1
            have hf0_ := (bcell hF_).2
            have hz0_ := hF_.size; (try simp at hz0_)
            (try simp at hc0_ hf0_)
            have : w.heap.size < w0_.heap.size := by omega
            have : w.heap.size + 1 < w0_.heap.size := by omega
            have : b8u3 < w0_.heap.size := by omega
            have : b9u3 < w0_.heap.size := by omega
            have : b10u3 < w0_.heap.size := by omega
            simp only [DepsR, Region.binds, Nat.zero_add, Nat.reduceAdd, true_implies, Bool.false_eq_true, false_implies, and_true, true_and, BEq.rfl, reduceCtorEq] at hd_
            go_simp
            refine (H3.out _).mono ?_
            rintro e_ w1_ ⟨rfl, hb_⟩
            exact hK_.out _ _ _ (by first | rfl | (simp only [Act.put, List.setIfInBounds_toArray, List.set_cons_zero, List.set_cons_succ, hd_]; done) | (simp only [Act.put, List.setIfInBounds_toArray, List.set_cons_zero, List.set_cons_succ, hd_]; rfl)) hb_ rfl (fun h => by cases h)
          · intro w0_ hF_ hd_ Q_ K_ hK_
            have hc0_ := (bcell hF_).1
            have hf0_ := (bcell hF_).2
            have hz0_ := hF_.size; (try simp at hz0_)
            (try simp at hc0_ hf0_)
            have : w.heap.size < w0_.heap.size := by omega
            have : w.heap.size + 1 < w0_.heap.size := by omega
            have : b8u3 < w0_.heap.size := by omega
            have : b9u3 < w0_.heap.size := by omega
            have : b10u3 < w0_.heap.size := by omega
            simp only [DepsR, Region.binds, Nat.zero_add, Nat.reduceAdd, true_implies, Bool.false_eq_true, false_implies, and_true, true_and, BEq.rfl, reduceCtorEq] at hd_
            go_simp
            exact hK_.out _ _ _ (by first | rfl | (simp only [Act.put, List.setIfInBounds_toArray, List.set_cons_zero, List.set_cons_succ, hd_]; done) | (simp only [Act.put, List.setIfInBounds_toArray, List.set_cons_zero, List.set_cons_succ, hd_]; rfl)) (Below.refl _ _) rfl (fun h => by cases h)
          · intro w0_ hF_ hd_ Q_ K_ hK_
            have hc0_ := (bcell hF_).1
            have hf0_ := (bcell hF_).2
            have hz0_ := hF_.size; (try simp at hz0_)
            (try simp at hc0_ hf0_)
            have : w.heap.size < w0_.heap.size := by omega
            have : w.heap.size + 1 < w0_.heap.size := by omega
            have : b8u3 < w0_.heap.size := by omega
            have : b9u3 < w0_.heap.size := by omega
            have : b10u3 < w0_.heap.size := by omega
            simp only [DepsR, Region.binds, Nat.zero_add, Nat.reduceAdd, true_implies, Bool.false_eq_true, false_implies, and_true, true_and, BEq.rfl, reduceCtorEq] at hd_
            go_simp
            exact hK_.out _ _ _ (by first | rfl | (simp only [Act.put, List.setIfInBounds_toArray, List.set_cons_zero, List.set_cons_succ, hd_]; done) | (simp only [Act.put, List.setIfInBounds_toArray, List.set_cons_zero, List.set_cons_succ, hd_]; rfl)) (Below.refl _ _) rfl (fun h => by cases h)
          · intro w0_ hF_ hd_ Q_ K_ hK_
            have hc0_ := (bcell hF_).1
            have hf0_ := (bcell hF_).2
            have hz0_ := hF_.size; (try simp at hz0_)
            (try simp at hc0_ hf0_)
            have : w.heap.size < w0_.heap.size := by omega
            have : w.heap.size + 1 < w0_.heap.size := by omega
            have : b8u3 < w0_.heap.size := by omega
            have : b9u3 < w0_.heap.size := by omega
            have : b10u3 < w0_.heap.size := by omega
            simp only [DepsR, Region.binds, Nat.zero_add, Nat.reduceAdd, true_implies, Bool.false_eq_true, false_implies, and_true, true_and, BEq.rfl, reduceCtorEq] at hd_
            go_simp
            exact hK_.out _ _ _ (by first | rfl | (simp only [Act.put, List.setIfInBounds_toArray, List.set_cons_zero, List.set_cons_succ, hd_]; done) | (simp only [Act.put, List.setIfInBounds_toArray, List.set_cons_zero, List.set_cons_succ, hd_]; rfl)) (Below.refl _ _) rfl (fun h => by cases h)
          · intro w0_ hF_ hd_ Q_ K_ hK_
            have hc0_ := (bcell hF_).1
            have hf0_ := (bcell hF_).2
            have hz0_ := hF_.size; (try simp at hz0_)
            (try simp at hc0_ hf0_)
            have : w.heap.size < w0_.heap.size := by omega
            have : w.heap.size + 1 < w0_.heap.size := by omega
            have : b8u3 < w0_.heap.size := by omega
            have : b9u3 < w0_.heap.size := by omega
            have : b10u3 < w0_.heap.size := by omega
            simp only [DepsR, Region.binds, Nat.zero_add, Nat.reduceAdd, true_implies, Bool.false_eq_true, false_implies, and_true, true_and, BEq.rfl, reduceCtorEq] at hd_
            go_simp
            refine (H4.out _).mono ?_
            rintro e_ w1_ ⟨rfl, hb_⟩
            exact hK_.out _ _ _ (by first | rfl | (simp only [Act.put, List.setIfInBounds_toArray, List.set_cons_zero, List.set_cons_succ, hd_]; done) | (simp only [Act.put, List.setIfInBounds_toArray, List.set_cons_zero, List.set_cons_succ, hd_]; rfl)) hb_ rfl (fun h => by cases h)
          · intro w0_ hF_ hd_ Q_ K_ hK_
            have hc0_ := (bcell hF_).1
            have hf0_ := (bcell hF_).2
            have hz0_ := hF_.size; (try simp at hz0_)
            (try simp at hc0_ hf0_)
            have : w.heap.size < w0_.heap.size := by omega
            have : w.heap.size + 1 < w0_.heap.size := by omega
            have : b8u3 < w0_.heap.size := by omega
            have : b9u3 < w0_.heap.size := by omega
            have : b10u3 < w0_.heap.size := by omega
            simp only [DepsR, Region.binds, Nat.zero_add, Nat.reduceAdd, true_implies, Bool.false_eq_true, false_implies, and_true, true_and, BEq.rfl, reduceCtorEq] at hd_
            go_simp
            exact hK_.out _ _ _ (by first | rfl | (simp only [Act.put, List.setIfInBounds_toArray, List.set_cons_zero, List.set_cons_succ, hd_]; done) | (simp only [Act.put, List.setIfInBounds_toArray, List.set_cons_zero, List.set_cons_succ, hd_]; rfl)) (Below.refl _ _) rfl (fun h => by cases h)
          · intro w0_ hF_ hd_ Q_ K_ hK_
            have hc0_ := (bcell hF_).1
            have hf0_ := (bcell hF_).2
            have hz0_ := hF_.size; (try simp at hz0_)
            (try simp at hc0_ hf0_)
            have : w.heap.size < w0_.heap.size := by omega
            have : w.heap.size + 1 < w0_.heap.size := by omega
            have : b8u3 < w0_.heap.size := by omega
            have : b9u3 < w0_.heap.size := by omega
            have : b10u3 < w0_.heap.size := by omega
            simp only [DepsR, Region.binds, Nat.zero_add, Nat.reduceAdd, true_implies, Bool.false_eq_true, false_implies, and_true, true_and, BEq.rfl, reduceCtorEq] at hd_
            go_simp
            exact hK_.out _ _ _ (by first | rfl | (simp only [Act.put, List.setIfInBounds_toArray, List.set_cons_zero, List.set_cons_succ, hd_]; done) | (simp only [Act.put, List.setIfInBounds_toArray, List.set_cons_zero, List.set_cons_succ, hd_]; rfl)) (Below.refl _ _) rfl (fun h => by cases h)
          · intro w0_ hF_ hd_ Q_ K_ hK_
            have hc0_ := (bcell hF_).1
            have hf0_ := (bcell hF_).2
            have hz0_ := hF_.size; (try simp at hz0_)
            (try simp at hc0_ hf0_)
            have : w.heap.size < w0_.heap.size := by omega
            have : w.heap.size + 1 < w0_.heap.size := by omega
            have : b8u3 < w0_.heap.size := by omega
            have : b9u3 < w0_.heap.size := by omega
            have : b10u3 < w0_.heap.size := by omega
            simp only [DepsR, Region.binds, Nat.zero_add, Nat.reduceAdd, true_implies, Bool.false_eq_true, false_implies, and_true, true_and, BEq.rfl, reduceCtorEq] at hd_
            go_simp
            exact hK_.out _ _ _ (by first | rfl | (simp only [Act.put, List.setIfInBounds_toArray, List.set_cons_zero, List.set_cons_succ, hd_]; done) | (simp only [Act.put, List.setIfInBounds_toArray, List.set_cons_zero, List.set_cons_succ, hd_]; rfl)) (Below.refl _ _) rfl (fun h => by cases h)
          · intro w0_ hF_ hd_ Q_ K_ hK_
            have hc0_ := (bcell hF_).1
            have hf0_ := (bcell hF_).2
            have hz0_ := hF_.size; (try simp at hz0_)
            (try simp at hc0_ hf0_)
            have : w.heap.size < w0_.heap.size := by omega
            have : w.heap.size + 1 < w0_.heap.size := by omega
            have : b8u3 < w0_.heap.size := by omega
            have : b9u3 < w0_.heap.size := by omega
            have : b10u3 < w0_.heap.size := by omega
            simp only [DepsR, Region.binds, Nat.zero_add, Nat.reduceAdd, true_implies, Bool.false_eq_true, false_implies, and_true, true_and, BEq.rfl, reduceCtorEq] at hd_
            go_simp
            exact hK_.out _ _ _ (by first | rfl | (simp only [Act.put, List.setIfInBounds_toArray, List.set_cons_zero, List.set_cons_succ, hd_]; done) | (simp only [Act.put, List.setIfInBounds_toArray, List.set_cons_zero, List.set_cons_succ, hd_]; rfl)) (Below.refl _ _) rfl (fun h => by cases h)
          · intro w0_ hF_ hd_ Q_ K_ hK_
            have hc0_ := (bcell hF_).1
            have hf0_ := (bcell hF_).2
            have hz0_ := hF_.size; (try simp at hz0_)
            (try simp at hc0_ hf0_)
            have : w.heap.size < w0_.heap.size := by omega
            have : w.heap.size + 1 < w0_.heap.size := by omega
            have : b8u3 < w0_.heap.size := by omega
            have : b9u3 < w0_.heap.size := by omega
            have : b10u3 < w0_.heap.size := by omega
            simp only [DepsR, Region.binds, Nat.zero_add, Nat.reduceAdd, true_implies, Bool.false_eq_true, false_implies, and_true, true_and, BEq.rfl, reduceCtorEq] at hd_
            go_simp
            exact hK_.out _ _ _ (by first | rfl | (simp only [Act.put, List.setIfInBounds_toArray, List.set_cons_zero, List.set_cons_succ, hd_]; done) | (simp only [Act.put, List.setIfInBounds_toArray, List.set_cons_zero, List.set_cons_succ, hd_]; rfl)) (Below.refl _ _) rfl (fun h => by cases h)
          · intro w0_ hF_ hd_ Q_ K_ hK_
            have hc0_ := (bcell hF_).1
            have hf0_ := (bcell hF_).2
            have hz0_ := hF_.size; (try simp at hz0_)
            (try simp at hc0_ hf0_)
            have : w.heap.size < w0_.heap.size := by omega
            have : w.heap.size + 1 < w0_.heap.size := by omega
            have : b8u3 < w0_.heap.size := by omega
            have : b9u3 < w0_.heap.size := by omega
            have : b10u3 < w0_.heap.size := by omega
            simp only [DepsR, Region.binds, Nat.zero_add, Nat.reduceAdd, true_implies, Bool.false_eq_true, false_implies, and_true, true_and, BEq.rfl, reduceCtorEq] at hd_
            go_simp
            exact hK_.out _ _ _ (by first | rfl | (simp only [Act.put, List.setIfInBounds_toArray, List.set_cons_zero, List.set_cons_succ, hd_]; done) | (simp only [Act.put, List.setIfInBounds_toArray, List.set_cons_zero, List.set_cons_succ, hd_]; rfl)) (Below.refl _ _) rfl (fun h => by cases h)
          · intro w0_ hF_ hd_ Q_ K_ hK_
            have hc0_ := (bcell hF_).1
            have hf0_ := (bcell hF_).2
            have hz0_ := hF_.size; (try simp at hz0_)
            (try simp at hc0_ hf0_)
            have : w.heap.size < w0_.heap.size := by omega
            have : w.heap.size + 1 < w0_.heap.size := by omega
            have : b8u3 < w0_.heap.size := by omega
            have : b9u3 < w0_.heap.size := by omega
            have : b10u3 < w0_.heap.size := by omega
            simp only [DepsR, Region.binds, Nat.zero_add, Nat.reduceAdd, true_implies, Bool.false_eq_true, false_implies, and_true, true_and, BEq.rfl, reduceCtorEq] at hd_
            go_simp
            refine (H5.out _).mono ?_
            rintro e_ w1_ ⟨rfl, hb_⟩
            exact hK_.out _ _ _ (by first | rfl | (simp only [Act.put, List.setIfInBounds_toArray, List.set_cons_zero, List.set_cons_succ, hd_]; done) | (simp only [Act.put, List.setIfInBounds_toArray, List.set_cons_zero, List.set_cons_succ, hd_]; rfl)) hb_ rfl (fun h => by cases h)
          · intro w0_ hF_ hd_ Q_ K_ hK_
            have hc0_ := (bcell hF_).1
            have hf0_ := (bcell hF_).2
            have hz0_ := hF_.size; (try simp at hz0_)
            (try simp at hc0_ hf0_)
            have : w.heap.size < w0_.heap.size := by omega
            have : w.heap.size + 1 < w0_.heap.size := by omega
            have : b8u3 < w0_.heap.size := by omega
            have : b9u3 < w0_.heap.size := by omega
            have : b10u3 < w0_.heap.size := by omega
            simp only [DepsR, Region.binds, Nat.zero_add, Nat.reduceAdd, true_implies, Bool.false_eq_true, false_implies, and_true, true_and, BEq.rfl, reduceCtorEq] at hd_
            go_simp
            exact hK_.out _ _ _ (by first | rfl | (simp only [Act.put, List.setIfInBounds_toArray, List.set_cons_zero, List.set_cons_succ, hd_]; done) | (simp only [Act.put, List.setIfInBounds_toArray, List.set_cons_zero, List.set_cons_succ, hd_]; rfl)) (Below.refl _ _) rfl (fun h => by cases h)
          · intro w0_ hF_ hd_ Q_ K_ hK_
            have hc0_ := (bcell hF_).1
            have hf0_ := (bcell hF_).2
            have hz0_ := hF_.size; (try simp at hz0_)
            (try simp at hc0_ hf0_)
            have : w.heap.size < w0_.heap.size := by omega
            have : w.heap.size + 1 < w0_.heap.size := by omega
            have : b8u3 < w0_.heap.size := by omega
            have : b9u3 < w0_.heap.size := by omega
            have : b10u3 < w0_.heap.size := by omega
            simp only [DepsR, Region.binds, Nat.zero_add, Nat.reduceAdd, true_implies, Bool.false_eq_true, false_implies, and_true, true_and, BEq.rfl, reduceCtorEq] at hd_
            go_simp
            exact hK_.out _ _ _ (by first | rfl | (simp only [Act.put, List.setIfInBounds_toArray, List.set_cons_zero, List.set_cons_succ, hd_]; done) | (simp only [Act.put, List.setIfInBounds_toArray, List.set_cons_zero, List.set_cons_succ, hd_]; rfl)) (Below.refl _ _) rfl (fun h => by cases h)
          · intro w0_ hF_ hd_ Q_ K_ hK_
            have hc0_ := (bcell hF_).1
            have hf0_ := (bcell hF_).2
            have hz0_ := hF_.size; (try simp at hz0_)
            (try simp at hc0_ hf0_)
            have : w.heap.size < w0_.heap.size := by omega
            have : w.heap.size + 1 < w0_.heap.size := by omega
            have : b8u3 < w0_.heap.size := by omega
            have : b9u3 < w0_.heap.size := by omega
            have : b10u3 < w0_.heap.size := by omega
            simp only [DepsR, Region.binds, Nat.zero_add, Nat.reduceAdd, true_implies, Bool.false_eq_true, false_implies, and_true, true_and, BEq.rfl, reduceCtorEq] at hd_
            go_simp
            refine (H3.out _).mono ?_
            rintro e_ w1_ ⟨rfl, hb_⟩
            exact hK_.out _ _ _ (by first | rfl | (simp only [Act.put, List.setIfInBounds_toArray, List.set_cons_zero, List.set_cons_succ, hd_]; done) | (simp only [Act.put, List.setIfInBounds_toArray, List.set_cons_zero, List.set_cons_succ, hd_]; rfl)) hb_ rfl (fun h => by cases h)
          · intro w0_ hF_ hd_ Q_ K_ hK_
            have hc0_ := (bcell hF_).1
            have hf0_ := (bcell hF_).2
            have hz0_ := hF_.size; (try simp at hz0_)
            (try simp at hc0_ hf0_)
            have : w.heap.size < w0_.heap.size := by omega
            have : w.heap.size + 1 < w0_.heap.size := by omega
            have : b8u3 < w0_.heap.size := by omega
            have : b9u3 < w0_.heap.size := by omega
            have : b10u3 < w0_.heap.size := by omega
            simp only [DepsR, Region.binds, Nat.zero_add, Nat.reduceAdd, true_implies, Bool.false_eq_true, false_implies, and_true, true_and, BEq.rfl, reduceCtorEq] at hd_
            go_simp
            exact hK_.out _ _ _ (by first | rfl | (simp only [Act.put, List.setIfInBounds_toArray, List.set_cons_zero, List.set_cons_succ, hd_]; done) | (simp only [Act.put, List.setIfInBounds_toArray, List.set_cons_zero, List.set_cons_succ, hd_]; rfl)) (Below.refl _ _) rfl (fun h => by cases h)
          · intro w0_ hF_ hd_ Q_ K_ hK_
            have hc0_ := (bcell hF_).1
            have hf0_ := (bcell hF_).2
            have hz0_ := hF_.size; (try simp at hz0_)
            (try simp at hc0_ hf0_)
            have : w.heap.size < w0_.heap.size := by omega
            have : w.heap.size + 1 < w0_.heap.size := by omega
            have : b8u3 < w0_.heap.size := by omega
            have : b9u3 < w0_.heap.size := by omega
            have : b10u3 < w0_.heap.size := by omega
            simp only [DepsR, Region.binds, Nat.zero_add, Nat.reduceAdd, true_implies, Bool.false_eq_true, false_implies, and_true, true_and, BEq.rfl, reduceCtorEq] at hd_
            go_simp
            exact hK_.out _ _ _ (by first | rfl | (simp only [Act.put, List.setIfInBounds_toArray, List.set_cons_zero, List.set_cons_succ, hd_]; done) | (simp only [Act.put, List.setIfInBounds_toArray, List.set_cons_zero, List.set_cons_succ, hd_]; rfl)) (Below.refl _ _) rfl (fun h => by cases h)
          · intro w0_ hF_ hd_ Q_ K_ hK_
            have hc0_ := (bcell hF_).1
            have hf0_ := (bcell hF_).2
            have hz0_ := hF_.size; (try simp at hz0_)
            (try simp at hc0_ hf0_)
            have : w.heap.size < w0_.heap.size := by omega
            have : w.heap.size + 1 < w0_.heap.size := by omega
            have : b8u3 < w0_.heap.size := by omega
            have : b9u3 < w0_.heap.size := by omega
            have : b10u3 < w0_.heap.size := by omega
            simp only [DepsR, Region.binds, Nat.zero_add, Nat.reduceAdd, true_implies, Bool.false_eq_true, false_implies, and_true, true_and, BEq.rfl, reduceCtorEq] at hd_
            go_simp
            exact hK_.out _ _ _ (by first | rfl | (simp only [Act.put, List.setIfInBounds_toArray, List.set_cons_zero, List.set_cons_succ, hd_]; done) | (simp only [Act.put, List.setIfInBounds_toArray, List.set_cons_zero, List.set_cons_succ, hd_]; rfl)) (Below.refl _ _) rfl (fun h => by cases h)
          · intro w0_ hF_ hd_ Q_ K_ hK_
            have hc0_ := (bcell hF_).1
            have hf0_ := (bcell hF_).2
            have hz0_ := hF_.size; (try simp at hz0_)
            (try simp at hc0_ hf0_)
            have : w.heap.size < w0_.heap.size := by omega
            have : w.heap.size + 1 < w0_.heap.size := by omega
            have : b8u3 < w0_.heap.size := by omega
            have : b9u3 < w0_.heap.size := by omega
            have : b10u3 < w0_.heap.size := by omega
            simp only [DepsR, Region.binds, Nat.zero_add, Nat.reduceAdd, true_implies, Bool.false_eq_true, false_implies, and_true, true_and, BEq.rfl, reduceCtorEq] at hd_
            go_simp
            exact hK_.out _ _ _ (by first | rfl | (simp only [Act.put, List.setIfInBounds_toArray, List.set_cons_zero, List.set_cons_succ, hd_]; done) | (simp only [Act.put, List.setIfInBounds_toArray, List.set_cons_zero, List.set_cons_succ, hd_]; rfl)) (Below.refl _ _) rfl (fun h => by cases h)
          · intro w0_ hF_ hd_ Q_ K_ hK_
            have hc0_ := (bcell hF_).1
            have hf0_ := (bcell hF_).2
            have hz0_ := hF_.size; (try simp at hz0_)
            (try simp at hc0_ hf0_)
            have : w.heap.size < w0_.heap.size := by omega
            have : w.heap.size + 1 < w0_.heap.size := by omega
            have : b8u3 < w0_.heap.size := by omega
            have : b9u3 < w0_.heap.size := by omega
            have : b10u3 < w0_.heap.size := by omega
            simp only [DepsR, Region.binds, Nat.zero_add, Nat.reduceAdd, true_implies, Bool.false_eq_true, false_implies, and_true, true_and, BEq.rfl, reduceCtorEq] at hd_
            go_simp
            refine (N2.out _).mono ?_
            rintro e_ w1_ ⟨rfl, hb_⟩
            exact hK_.out _ _ _ (by first | rfl | (simp only [Act.put, List.setIfInBounds_toArray, List.set_cons_zero, List.set_cons_succ, hd_]; done) | (simp only [Act.put, List.setIfInBounds_toArray, List.set_cons_zero, List.set_cons_succ, hd_]; rfl)) hb_ rfl (fun h => by cases h)
          · intro w0_ hF_ hd_ Q_ K_ hK_
            have hc0_ := (bcell hF_).1
            have hf0_ := (bcell hF_).2
            have hz0_ := hF_.size; (try simp at hz0_)
            (try simp at hc0_ hf0_)
            have : w.heap.size < w0_.heap.size := by omega
            have : w.heap.size + 1 < w0_.heap.size := by omega
            have : b8u3 < w0_.heap.size := by omega
            have : b9u3 < w0_.heap.size := by omega
            have : b10u3 < w0_.heap.size := by omega
            simp only [DepsR, Region.binds, Nat.zero_add, Nat.reduceAdd, true_implies, Bool.false_eq_true, false_implies, and_true, true_and, BEq.rfl, reduceCtorEq] at hd_
            go_simp
            exact hK_.out _ _ _ (by first | rfl | (simp only [Act.put, List.setIfInBounds_toArray, List.set_cons_zero, List.set_cons_succ, hd_]; done) | (simp only [Act.put, List.setIfInBounds_toArray, List.set_cons_zero, List.set_cons_succ, hd_]; rfl)) (Below.refl _ _) rfl (fun h => by cases h)
          · intro w0_ hF_ hd_ Q_ K_ hK_
            have hc0_ := (bcell hF_).1
            have hf0_ := (bcell hF_).2
            have hz0_ := hF_.size; (try simp at hz0_)
            (try simp at hc0_ hf0_)
            have : w.heap.size < w0_.heap.size := by omega
            have : w.heap.size + 1 < w0_.heap.size := by omega
            have : b8u3 < w0_.heap.size := by omega
            have : b9u3 < w0_.heap.size := by omega
            have : b10u3 < w0_.heap.size := by omega
            simp only [DepsR, Region.binds, Nat.zero_add, Nat.reduceAdd, true_implies, Bool.false_eq_true, false_implies, and_true, true_and, BEq.rfl, reduceCtorEq] at hd_
            go_simp
            exact hK_.out _ _ _ (by first | rfl | (simp only [Act.put, List.setIfInBounds_toArray, List.set_cons_zero, List.set_cons_succ, hd_]; done) | (simp only [Act.put, List.setIfInBounds_toArray, List.set_cons_zero, List.set_cons_succ, hd_]; rfl)) (Below.refl _ _) rfl (fun h => by cases h)
          · intro w0_ hF_ hd_ Q_ K_ hK_
            have hc0_ := (bcell hF_).1
            have hf0_ := (bcell hF_).2
            have hz0_ := hF_.size; (try simp at hz0_)
            (try simp at hc0_ hf0_)
            have : w.heap.size < w0_.heap.size := by omega
            have : w.heap.size + 1 < w0_.heap.size := by omega
            have : b8u3 < w0_.heap.size := by omega
            have : b9u3 < w0_.heap.size := by omega
            have : b10u3 < w0_.heap.size := by omega
            simp only [DepsR, Region.binds, Nat.zero_add, Nat.reduceAdd, true_implies, Bool.false_eq_true, false_implies, and_true, true_and, BEq.rfl, reduceCtorEq] at hd_
            go_simp
            exact hK_.out _ _ _ (by first | rfl | (simp only [Act.put, List.setIfInBounds_toArray, List.set_cons_zero, List.set_cons_succ, hd_]; done) | (simp only [Act.put, List.setIfInBounds_toArray, List.set_cons_zero, List.set_cons_succ, hd_]; rfl)) (Below.refl _ _) rfl (fun h => by cases h)
        · intro vs u4 hBu4 hA_ hD_
          simp only [AllR, Nat.zero_add, Nat.reduceAdd, and_true] at hA_
          obtain ⟨r0_, r1_, r2_, r3_, r4_, r5_, r6_, r7_, r8_, r9_, r10_, r11_, r12_, r13_, r14_, r15_, r16_, r17_, r18_, r19_, r20_, r21_, r22_, r23_, r24_, r25_, r26_, r27_, r28_, r29_, r30_, r31_, r32_, r33_, r34_, r35_, r36_, r37_, r38_, r39_, r40_⟩ := hA_
          clear hD_
          simp only [putAll, Act.put, List.setIfInBounds_toArray, List.set_cons_zero, List.set_cons_succ, Nat.zero_add, Nat.reduceAdd, r0_, r1_, r2_, r3_, r4_, r5_, r6_, r7_, r8_, r9_, r10_, r11_, r12_, r13_, r14_, r15_, r16_, r17_, r18_, r19_, r20_, r21_, r22_, r23_, r24_, r25_, r26_, r27_, r28_, r29_, r30_, r31_, r32_, r33_, r34_, r35_, r36_, r37_, r38_, r39_, r40_]
          clear r0_ r1_ r2_ r3_ r4_ r5_ r6_ r7_ r8_ r9_ r10_ r11_ r12_ r13_ r14_ r15_ r16_ r17_ r18_ r19_ r20_ r21_ r22_ r23_ r24_ r25_ r26_ r27_ r28_ r29_ r30_ r31_ r32_ r33_ r34_ r35_ r36_ r37_ r38_ r39_ r40_
          obtain ⟨hcu4, hfu4⟩ := bcell hBu4; (try simp only [World.size_drew, World.cell?_drew, World.frozen?_drew] at hcu4 hfu4); have hzu4 := hBu4.size; (try simp at hzu4)
          have : w.heap.size < u4.heap.size := by omega
          have : w.heap.size + 1 < u4.heap.size := by omega
          have : b8u3 < u4.heap.size := by omega
          have : b9u3 < u4.heap.size := by omega
          have : b10u3 < u4.heap.size := by omega
          go_wp2_with fail
          go_meet
          case rel => exact ⟨rfl, hBu4⟩
      · skip
        refine wp_region_keep (t := fun j => j) (al := fun _ => false) (loud := fun _ => false)
          (R := fun j v u w' => match j with
            | 0 => v = setV r
            | 1 => v = .int .u8 (c : Int)
            | 2 => v = .bool (false && br)
            | 3 => v = .int .u8 (fa : Int)
            | 4 => v = .int .u8 (c : Int)
            | 5 => v = .bool false
            | 6 => v = .bool false
            | 7 => v = undef
            | 8 => v = undef
            | 9 => v = undef
            | 10 => v = .bool false
            | 11 => v = .bool false
            | 12 => v = .bool false
            | 13 => v = setV o
            | 14 => v = .int .u8 (c : Int)
            | 15 => v = .bool (true || qc)
            | 16 => v = setV p
            | 17 => v = .int .u8 (c : Int)
            | 18 => v = .bool true
            | 19 => v = .bool true
            | 20 => v = undef
            | 21 => v = undef
            | 22 => v = undef
            | 23 => v = .bool true
            | 24 => v = .bool false
            | 25 => v = .bool false
            | 26 => v = .bool false
            | 27 => v = setV n
            | 28 => v = .int .u8 (c : Int)
            | 29 => v = .bool (!true)
            | 30 => v = setV p
            | 31 => v = .int .u8 (c : Int)
            | 32 => v = .bool true
            | 33 => v = .bool false
            | 34 => v = .bool false
            | 35 => v = .bool false
            | 36 => v = setV n
            | 37 => v = setV p
            | 38 => v = setV p
            | 39 => v = .bool false
            | 40 => v = .bool false
            | _ => True) (by kernel_rfl) (by kernel_rfl) (by kernel_rfl) ?_ ?_ ?_ ?_
        · intro j v u w1_ w2_ h_ hF_ hB_
          (try dsimp only at h_ ⊢)
          split at h_ <;> first | (with_reducible exact h_) | (with_reducible exact NewR.on h_ hB_) | (with_reducible exact HasR.on h_ hB_) | exact IsNum.on h_ hB_ | exact HasNum.on h_ hB_ | exact RHeld.on h_ hB_ | trivial | exact h_
        · intro j v u w1_ h1_ h_
          cases h1_
        · intro vs
          simp only [putAll, Act.put, List.setIfInBounds_toArray, List.set_cons_zero, List.set_cons_succ, Nat.zero_add, Nat.reduceAdd]
          refine ⟨?_, ?_, ?_, ?_, ?_, ?_, ?_, ?_, ?_, ?_, ?_, ?_, ?_, ?_, ?_, ?_, ?_, ?_, ?_, ?_, ?_, ?_, ?_, ?_, ?_, ?_, ?_, ?_, ?_, ?_, ?_, ?_, ?_, ?_, ?_, ?_, ?_, ?_, ?_, ?_, ?_, trivial⟩
          · intro w0_ hF_ hd_ Q_ K_ hK_
            have hc0_ := (bcell hF_).1
            have hf0_ := (bcell hF_).2
            have hz0_ := hF_.size; (try simp at hz0_)
            (try simp at hc0_ hf0_)
            have : w.heap.size < w0_.heap.size := by omega
            have : w.heap.size + 1 < w0_.heap.size := by omega
            have : b8u3 < w0_.heap.size := by omega
            have : b9u3 < w0_.heap.size := by omega
            have : b10u3 < w0_.heap.size := by omega
            simp only [DepsR, Region.binds, Nat.zero_add, Nat.reduceAdd, true_implies, Bool.false_eq_true, false_implies, and_true, true_and, BEq.rfl, reduceCtorEq] at hd_
            go_simp
            exact hK_.out _ _ _ (by first | rfl | (simp only [Act.put, List.setIfInBounds_toArray, List.set_cons_zero, List.set_cons_succ, hd_]; done) | (simp only [Act.put, List.setIfInBounds_toArray, List.set_cons_zero, List.set_cons_succ, hd_]; rfl)) (Below.refl _ _) rfl (fun h => by cases h)
          · intro w0_ hF_ hd_ Q_ K_ hK_
            have hc0_ := (bcell hF_).1
            have hf0_ := (bcell hF_).2
            have hz0_ := hF_.size; (try simp at hz0_)
            (try simp at hc0_ hf0_)
            have : w.heap.size < w0_.heap.size := by omega
            have : w.heap.size + 1 < w0_.heap.size := by omega
            have : b8u3 < w0_.heap.size := by omega
            have : b9u3 < w0_.heap.size := by omega
            have : b10u3 < w0_.heap.size := by omega
            simp only [DepsR, Region.binds, Nat.zero_add, Nat.reduceAdd, true_implies, Bool.false_eq_true, false_implies, and_true, true_and, BEq.rfl, reduceCtorEq] at hd_
            go_simp
            exact hK_.out _ _ _ (by first | rfl | (simp only [Act.put, List.setIfInBounds_toArray, List.set_cons_zero, List.set_cons_succ, hd_]; done) | (simp only [Act.put, List.setIfInBounds_toArray, List.set_cons_zero, List.set_cons_succ, hd_]; rfl)) (Below.refl _ _) rfl (fun h => by cases h)
          · intro w0_ hF_ hd_ Q_ K_ hK_
            have hc0_ := (bcell hF_).1
            have hf0_ := (bcell hF_).2
            have hz0_ := hF_.size; (try simp at hz0_)
            (try simp at hc0_ hf0_)
            have : w.heap.size < w0_.heap.size := by omega
            have : w.heap.size + 1 < w0_.heap.size := by omega
            have : b8u3 < w0_.heap.size := by omega
            have : b9u3 < w0_.heap.size := by omega
            have : b10u3 < w0_.heap.size := by omega
            simp only [DepsR, Region.binds, Nat.zero_add, Nat.reduceAdd, true_implies, Bool.false_eq_true, false_implies, and_true, true_and, BEq.rfl, reduceCtorEq] at hd_
            go_simp
            refine (H1.out _).mono ?_
            rintro e_ w1_ ⟨rfl, hb_⟩
            exact hK_.out _ _ _ (by first | rfl | (simp only [Act.put, List.setIfInBounds_toArray, List.set_cons_zero, List.set_cons_succ, hd_]; done) | (simp only [Act.put, List.setIfInBounds_toArray, List.set_cons_zero, List.set_cons_succ, hd_]; rfl)) hb_ rfl (fun h => by cases h)
          · intro w0_ hF_ hd_ Q_ K_ hK_
            have hc0_ := (bcell hF_).1
            have hf0_ := (bcell hF_).2
            have hz0_ := hF_.size; (try simp at hz0_)
            (try simp at hc0_ hf0_)
            have : w.heap.size < w0_.heap.size := by omega
            have : w.heap.size + 1 < w0_.heap.size := by omega
            have : b8u3 < w0_.heap.size := by omega
            have : b9u3 < w0_.heap.size := by omega
            have : b10u3 < w0_.heap.size := by omega
            simp only [DepsR, Region.binds, Nat.zero_add, Nat.reduceAdd, true_implies, Bool.false_eq_true, false_implies, and_true, true_and, BEq.rfl, reduceCtorEq] at hd_
            go_simp
            exact hK_.out _ _ _ (by first | rfl | (simp only [Act.put, List.setIfInBounds_toArray, List.set_cons_zero, List.set_cons_succ, hd_]; done) | (simp only [Act.put, List.setIfInBounds_toArray, List.set_cons_zero, List.set_cons_succ, hd_]; rfl)) (Below.refl _ _) rfl (fun h => by cases h)
          · intro w0_ hF_ hd_ Q_ K_ hK_
            have hc0_ := (bcell hF_).1
            have hf0_ := (bcell hF_).2
            have hz0_ := hF_.size; (try simp at hz0_)
            (try simp at hc0_ hf0_)
            have : w.heap.size < w0_.heap.size := by omega
            have : w.heap.size + 1 < w0_.heap.size := by omega
            have : b8u3 < w0_.heap.size := by omega
            have : b9u3 < w0_.heap.size := by omega
            have : b10u3 < w0_.heap.size := by omega
            simp only [DepsR, Region.binds, Nat.zero_add, Nat.reduceAdd, true_implies, Bool.false_eq_true, false_implies, and_true, true_and, BEq.rfl, reduceCtorEq] at hd_
            go_simp
            exact hK_.out _ _ _ (by first | rfl | (simp only [Act.put, List.setIfInBounds_toArray, List.set_cons_zero, List.set_cons_succ, hd_]; done) | (simp only [Act.put, List.setIfInBounds_toArray, List.set_cons_zero, List.set_cons_succ, hd_]; rfl)) (Below.refl _ _) rfl (fun h => by cases h)
          · intro w0_ hF_ hd_ Q_ K_ hK_
            have hc0_ := (bcell hF_).1
            have hf0_ := (bcell hF_).2
            have hz0_ := hF_.size; (try simp at hz0_)
            (try simp at hc0_ hf0_)
            have : w.heap.size < w0_.heap.size := by omega
            have : w.heap.size + 1 < w0_.heap.size := by omega
            have : b8u3 < w0_.heap.size := by omega
            have : b9u3 < w0_.heap.size := by omega
            have : b10u3 < w0_.heap.size := by omega
            simp only [DepsR, Region.binds, Nat.zero_add, Nat.reduceAdd, true_implies, Bool.false_eq_true, false_implies, and_true, true_and, BEq.rfl, reduceCtorEq] at hd_
            go_simp
            exact hK_.out _ _ _ (by first | rfl | (simp only [Act.put, List.setIfInBounds_toArray, List.set_cons_zero, List.set_cons_succ, hd_]; done) | (simp only [Act.put, List.setIfInBounds_toArray, List.set_cons_zero, List.set_cons_succ, hd_]; rfl)) (Below.refl _ _) rfl (fun h => by cases h)
          · intro w0_ hF_ hd_ Q_ K_ hK_
            have hc0_ := (bcell hF_).1
            have hf0_ := (bcell hF_).2
            have hz0_ := hF_.size; (try simp at hz0_)
            (try simp at hc0_ hf0_)
            have : w.heap.size < w0_.heap.size := by omega
            have : w.heap.size + 1 < w0_.heap.size := by omega
            have : b8u3 < w0_.heap.size := by omega
            have : b9u3 < w0_.heap.size := by omega
            have : b10u3 < w0_.heap.size := by omega
            simp only [DepsR, Region.binds, Nat.zero_add, Nat.reduceAdd, true_implies, Bool.false_eq_true, false_implies, and_true, true_and, BEq.rfl, reduceCtorEq] at hd_
            go_simp
            exact hK_.out _ _ _ (by first | rfl | (simp only [Act.put, List.setIfInBounds_toArray, List.set_cons_zero, List.set_cons_succ, hd_]; done) | (simp only [Act.put, List.setIfInBounds_toArray, List.set_cons_zero, List.set_cons_succ, hd_]; rfl)) (Below.refl _ _) rfl (fun h => by cases h)
          · intro w0_ hF_ hd_ Q_ K_ hK_
            have hc0_ := (bcell hF_).1
            have hf0_ := (bcell hF_).2
            have hz0_ := hF_.size; (try simp at hz0_)
            (try simp at hc0_ hf0_)
            have : w.heap.size < w0_.heap.size := by omega
            have : w.heap.size + 1 < w0_.heap.size := by omega
            have : b8u3 < w0_.heap.size := by omega
            have : b9u3 < w0_.heap.size := by omega
            have : b10u3 < w0_.heap.size := by omega
            simp only [DepsR, Region.binds, Nat.zero_add, Nat.reduceAdd, true_implies, Bool.false_eq_true, false_implies, and_true, true_and, BEq.rfl, reduceCtorEq] at hd_
            go_simp
            exact hK_.out _ _ _ (by first | rfl | (simp only [Act.put, List.setIfInBounds_toArray, List.set_cons_zero, List.set_cons_succ, hd_]; done) | (simp only [Act.put, List.setIfInBounds_toArray, List.set_cons_zero, List.set_cons_succ, hd_]; rfl)) (Below.refl _ _) rfl (fun h => by cases h)
          · intro w0_ hF_ hd_ Q_ K_ hK_
            have hc0_ := (bcell hF_).1
            have hf0_ := (bcell hF_).2
            have hz0_ := hF_.size; (try simp at hz0_)
            (try simp at hc0_ hf0_)
            have : w.heap.size < w0_.heap.size := by omega
            have : w.heap.size + 1 < w0_.heap.size := by omega
            have : b8u3 < w0_.heap.size := by omega
            have : b9u3 < w0_.heap.size := by omega
            have : b10u3 < w0_.heap.size := by omega
            simp only [DepsR, Region.binds, Nat.zero_add, Nat.reduceAdd, true_implies, Bool.false_eq_true, false_implies, and_true, true_and, BEq.rfl, reduceCtorEq] at hd_
            go_simp
            exact hK_.out _ _ _ (by first | rfl | (simp only [Act.put, List.setIfInBounds_toArray, List.set_cons_zero, List.set_cons_succ, hd_]; done) | (simp only [Act.put, List.setIfInBounds_toArray, List.set_cons_zero, List.set_cons_succ, hd_]; rfl)) (Below.refl _ _) rfl (fun h => by cases h)
          · intro w0_ hF_ hd_ Q_ K_ hK_
            have hc0_ := (bcell hF_).1
            have hf0_ := (bcell hF_).2
            have hz0_ := hF_.size; (try simp at hz0_)
            (try simp at hc0_ hf0_)
            have : w.heap.size < w0_.heap.size := by omega
            have : w.heap.size + 1 < w0_.heap.size := by omega
            have : b8u3 < w0_.heap.size := by omega
            have : b9u3 < w0_.heap.size := by omega
            have : b10u3 < w0_.heap.size := by omega
            simp only [DepsR, Region.binds, Nat.zero_add, Nat.reduceAdd, true_implies, Bool.false_eq_true, false_implies, and_true, true_and, BEq.rfl, reduceCtorEq] at hd_
            go_simp
            exact hK_.out _ _ _ (by first | rfl | (simp only [Act.put, List.setIfInBounds_toArray, List.set_cons_zero, List.set_cons_succ, hd_]; done) | (simp only [Act.put, List.setIfInBounds_toArray, List.set_cons_zero, List.set_cons_succ, hd_]; rfl)) (Below.refl _ _) rfl (fun h => by cases h)
          · intro w0_ hF_ hd_ Q_ K_ hK_
            have hc0_ := (bcell hF_).1
            have hf0_ := (bcell hF_).2
            have hz0_ := hF_.size; (try simp at hz0_)
            (try simp at hc0_ hf0_)
            have : w.heap.size < w0_.heap.size := by omega
            have : w.heap.size + 1 < w0_.heap.size := by omega
            have : b8u3 < w0_.heap.size := by omega
            have : b9u3 < w0_.heap.size := by omega
            have : b10u3 < w0_.heap.size := by omega
            simp only [DepsR, Region.binds, Nat.zero_add, Nat.reduceAdd, true_implies, Bool.false_eq_true, false_implies, and_true, true_and, BEq.rfl, reduceCtorEq] at hd_
            go_simp
            exact hK_.out _ _ _ (by first | rfl | (simp only [Act.put, List.setIfInBounds_toArray, List.set_cons_zero, List.set_cons_succ, hd_]; done) | (simp only [Act.put, List.setIfInBounds_toArray, List.set_cons_zero, List.set_cons_succ, hd_]; rfl)) (Below.refl _ _) rfl (fun h => by cases h)
          · intro w0_ hF_ hd_ Q_ K_ hK_
            have hc0_ := (bcell hF_).1
            have hf0_ := (bcell hF_).2
            have hz0_ := hF_.size; (try simp at hz0_)
            (try simp at hc0_ hf0_)
            have : w.heap.size < w0_.heap.size := by omega
            have : w.heap.size + 1 < w0_.heap.size := by omega
            have : b8u3 < w0_.heap.size := by omega
            have : b9u3 < w0_.heap.size := by omega
            have : b10u3 < w0_.heap.size := by omega
            simp only [DepsR, Region.binds, Nat.zero_add, Nat.reduceAdd, true_implies, Bool.false_eq_true, false_implies, and_true, true_and, BEq.rfl, reduceCtorEq] at hd_
            go_simp
            exact hK_.out _ _ _ (by first | rfl | (simp only [Act.put, List.setIfInBounds_toArray, List.set_cons_zero, List.set_cons_succ, hd_]; done) | (simp only [Act.put, List.setIfInBounds_toArray, List.set_cons_zero, List.set_cons_succ, hd_]; rfl)) (Below.refl _ _) rfl (fun h => by cases h)
          · intro w0_ hF_ hd_ Q_ K_ hK_
            have hc0_ := (bcell hF_).1
            have hf0_ := (bcell hF_).2
            have hz0_ := hF_.size; (try simp at hz0_)
            (try simp at hc0_ hf0_)
            have : w.heap.size < w0_.heap.size := by omega
            have : w.heap.size + 1 < w0_.heap.size := by omega
            have : b8u3 < w0_.heap.size := by omega
            have : b9u3 < w0_.heap.size := by omega
            have : b10u3 < w0_.heap.size := by omega
            simp only [DepsR, Region.binds, Nat.zero_add, Nat.reduceAdd, true_implies, Bool.false_eq_true, false_implies, and_true, true_and, BEq.rfl, reduceCtorEq] at hd_
            go_simp
            exact hK_.out _ _ _ (by first | rfl | (simp only [Act.put, List.setIfInBounds_toArray, List.set_cons_zero, List.set_cons_succ, hd_]; done) | (simp only [Act.put, List.setIfInBounds_toArray, List.set_cons_zero, List.set_cons_succ, hd_]; rfl)) (Below.refl _ _) rfl (fun h => by cases h)
          · intro w0_ hF_ hd_ Q_ K_ hK_
            have hc0_ := (bcell hF_).1
            have hf0_ := (bcell hF_).2
            have hz0_ := hF_.size; (try simp at hz0_)
            (try simp at hc0_ hf0_)
            have : w.heap.size < w0_.heap.size := by omega
            have : w.heap.size + 1 < w0_.heap.size := by omega
            have : b8u3 < w0_.heap.size := by omega
            have : b9u3 < w0_.heap.size := by omega
            have : b10u3 < w0_.heap.size := by omega
            simp only [DepsR, Region.binds, Nat.zero_add, Nat.reduceAdd, true_implies, Bool.false_eq_true, false_implies, and_true, true_and, BEq.rfl, reduceCtorEq] at hd_
            go_simp
            exact hK_.out _ _ _ (by first | rfl | (simp only [Act.put, List.setIfInBounds_toArray, List.set_cons_zero, List.set_cons_succ, hd_]; done) | (simp only [Act.put, List.setIfInBounds_toArray, List.set_cons_zero, List.set_cons_succ, hd_]; rfl)) (Below.refl _ _) rfl (fun h => by cases h)
          · intro w0_ hF_ hd_ Q_ K_ hK_
            have hc0_ := (bcell hF_).1
            have hf0_ := (bcell hF_).2
            have hz0_ := hF_.size; (try simp at hz0_)
            (try simp at hc0_ hf0_)
            have : w.heap.size < w0_.heap.size := by omega
            have : w.heap.size + 1 < w0_.heap.size := by omega
            have : b8u3 < w0_.heap.size := by omega
            have : b9u3 < w0_.heap.size := by omega
            have : b10u3 < w0_.heap.size := by omega
            simp only [DepsR, Region.binds, Nat.zero_add, Nat.reduceAdd, true_implies, Bool.false_eq_true, false_implies, and_true, true_and, BEq.rfl, reduceCtorEq] at hd_
            go_simp
            exact hK_.out _ _ _ (by first | rfl | (simp only [Act.put, List.setIfInBounds_toArray, List.set_cons_zero, List.set_cons_succ, hd_]; done) | (simp only [Act.put, List.setIfInBounds_toArray, List.set_cons_zero, List.set_cons_succ, hd_]; rfl)) (Below.refl _ _) rfl (fun h => by cases h)
          · intro w0_ hF_ hd_ Q_ K_ hK_
            have hc0_ := (bcell hF_).1
            have hf0_ := (bcell hF_).2
            have hz0_ := hF_.size; (try simp at hz0_)
            (try simp at hc0_ hf0_)
            have : w.heap.size < w0_.heap.size := by omega
            have : w.heap.size + 1 < w0_.heap.size := by omega
            have : b8u3 < w0_.heap.size := by omega
            have : b9u3 < w0_.heap.size := by omega
            have : b10u3 < w0_.heap.size := by omega
            simp only [DepsR, Region.binds, Nat.zero_add, Nat.reduceAdd, true_implies, Bool.false_eq_true, false_implies, and_true, true_and, BEq.rfl, reduceCtorEq] at hd_
            go_simp
            refine (H2.out _).mono ?_
            rintro e_ w1_ ⟨rfl, hb_⟩
            exact hK_.out _ _ _ (by first | rfl | (simp only [Act.put, List.setIfInBounds_toArray, List.set_cons_zero, List.set_cons_succ, hd_]; done) | (simp only [Act.put, List.setIfInBounds_toArray, List.set_cons_zero, List.set_cons_succ, hd_]; rfl)) hb_ rfl (fun h => by cases h)
          · intro w0_ hF_ hd_ Q_ K_ hK_
            have hc0_ := (bcell hF_).1
            have hf0_ := (bcell hF_).2
            have hz0_ := hF_.size; (try simp at hz0_)
            (try simp at hc0_ hf0_)
            have : w.heap.size < w0_.heap.size := by omega
            have : w.heap.size + 1 < w0_.heap.size := by omega
            have : b8u3 < w0_.heap.size := by omega
            have : b9u3 < w0_.heap.size := by omega
            have : b10u3 < w0_.heap.size := by omega
            simp only [DepsR, Region.binds, Nat.zero_add, Nat.reduceAdd, true_implies, Bool.false_eq_true, false_implies, and_true, true_and, BEq.rfl, reduceCtorEq] at hd_
            go_simp
            exact hK_.out _ _ _ (by first | rfl | (simp only [Act.put, List.setIfInBounds_toArray, List.set_cons_zero, List.set_cons_succ, hd_]; done) | (simp only [Act.put, List.setIfInBounds_toArray, List.set_cons_zero, List.set_cons_succ, hd_]; rfl)) (Below.refl _ _) rfl (fun h => by cases h)
          · intro w0_ hF_ hd_ Q_ K_ hK_
            have hc0_ := (bcell hF_).1
            have hf0_ := (bcell hF_).2
            have hz0_ := hF_.size; (try simp at hz0_)
            (try simp at hc0_ hf0_)
            have : w.heap.size < w0_.heap.size := by omega
            have : w.heap.size + 1 < w0_.heap.size := by omega
            have : b8u3 < w0_.heap.size := by omega
            have : b9u3 < w0_.heap.size := by omega
            have : b10u3 < w0_.heap.size := by omega
            simp only [DepsR, Region.binds, Nat.zero_add, Nat.reduceAdd, true_implies, Bool.false_eq_true, false_implies, and_true, true_and, BEq.rfl, reduceCtorEq] at hd_
            go_simp
            exact hK_.out _ _ _ (by first | rfl | (simp only [Act.put, List.setIfInBounds_toArray, List.set_cons_zero, List.set_cons_succ, hd_]; done) | (simp only [Act.put, List.setIfInBounds_toArray, List.set_cons_zero, List.set_cons_succ, hd_]; rfl)) (Below.refl _ _) rfl (fun h => by cases h)
          · intro w0_ hF_ hd_ Q_ K_ hK_
            have hc0_ := (bcell hF_).1
            have hf0_ := (bcell hF_).2
            have hz0_ := hF_.size; (try simp at hz0_)
            (try simp at hc0_ hf0_)
            have : w.heap.size < w0_.heap.size := by omega
            have : w.heap.size + 1 < w0_.heap.size := by omega
            have : b8u3 < w0_.heap.size := by omega
            have : b9u3 < w0_.heap.size := by omega
            have : b10u3 < w0_.heap.size := by omega
            simp only [DepsR, Region.binds, Nat.zero_add, Nat.reduceAdd, true_implies, Bool.false_eq_true, false_implies, and_true, true_and, BEq.rfl, reduceCtorEq] at hd_
            go_simp
            refine (H3.out _).mono ?_
            rintro e_ w1_ ⟨rfl, hb_⟩
            exact hK_.out _ _ _ (by first | rfl | (simp only [Act.put, List.setIfInBounds_toArray, List.set_cons_zero, List.set_cons_succ, hd_]; done) | (simp only [Act.put, List.setIfInBounds_toArray, List.set_cons_zero, List.set_cons_succ, hd_]; rfl)) hb_ rfl (fun h => by cases h)
          · intro w0_ hF_ hd_ Q_ K_ hK_
            have hc0_ := (bcell hF_).1
            have hf0_ := (bcell hF_).2
            have hz0_ := hF_.size; (try simp at hz0_)
            (try simp at hc0_ hf0_)
            have : w.heap.size < w0_.heap.size := by omega
            have : w.heap.size + 1 < w0_.heap.size := by omega
            have : b8u3 < w0_.heap.size := by omega
            have : b9u3 < w0_.heap.size := by omega
            have : b10u3 < w0_.heap.size := by omega
            simp only [DepsR, Region.binds, Nat.zero_add, Nat.reduceAdd, true_implies, Bool.false_eq_true, false_implies, and_true, true_and, BEq.rfl, reduceCtorEq] at hd_
            go_simp
            exact hK_.out _ _ _ (by first | rfl | (simp only [Act.put, List.setIfInBounds_toArray, List.set_cons_zero, List.set_cons_succ, hd_]; done) | (simp only [Act.put, List.setIfInBounds_toArray, List.set_cons_zero, List.set_cons_succ, hd_]; rfl)) (Below.refl _ _) rfl (fun h => by cases h)
          · intro w0_ hF_ hd_ Q_ K_ hK_
            have hc0_ := (bcell hF_).1
            have hf0_ := (bcell hF_).2
            have hz0_ := hF_.size; (try simp at hz0_)
            (try simp at hc0_ hf0_)
            have : w.heap.size < w0_.heap.size := by omega
            have : w.heap.size + 1 < w0_.heap.size := by omega
            have : b8u3 < w0_.heap.size := by omega
            have : b9u3 < w0_.heap.size := by omega
            have : b10u3 < w0_.heap.size := by omega
            simp only [DepsR, Region.binds, Nat.zero_add, Nat.reduceAdd, true_implies, Bool.false_eq_true, false_implies, and_true, true_and, BEq.rfl, reduceCtorEq] at hd_
            go_simp
            exact hK_.out _ _ _ (by first | rfl | (simp only [Act.put, List.setIfInBounds_toArray, List.set_cons_zero, List.set_cons_succ, hd_]; done) | (simp only [Act.put, List.setIfInBounds_toArray, List.set_cons_zero, List.set_cons_succ, hd_]; rfl)) (Below.refl _ _) rfl (fun h => by cases h)
          · intro w0_ hF_ hd_ Q_ K_ hK_
            have hc0_ := (bcell hF_).1
            have hf0_ := (bcell hF_).2
            have hz0_ := hF_.size; (try simp at hz0_)
            (try simp at hc0_ hf0_)
            have : w.heap.size < w0_.heap.size := by omega
            have : w.heap.size + 1 < w0_.heap.size := by omega
            have : b8u3 < w0_.heap.size := by omega
            have : b9u3 < w0_.heap.size := by omega
            have : b10u3 < w0_.heap.size := by omega
            simp only [DepsR, Region.binds, Nat.zero_add, Nat.reduceAdd, true_implies, Bool.false_eq_true, false_implies, and_true, true_and, BEq.rfl, reduceCtorEq] at hd_
            go_simp
            exact hK_.out _ _ _ (by first | rfl | (simp only [Act.put, List.setIfInBounds_toArray, List.set_cons_zero, List.set_cons_succ, hd_]; done) | (simp only [Act.put, List.setIfInBounds_toArray, List.set_cons_zero, List.set_cons_succ, hd_]; rfl)) (Below.refl _ _) rfl (fun h => by cases h)
          · intro w0_ hF_ hd_ Q_ K_ hK_
            have hc0_ := (bcell hF_).1
            have hf0_ := (bcell hF_).2
            have hz0_ := hF_.size; (try simp at hz0_)
            (try simp at hc0_ hf0_)
            have : w.heap.size < w0_.heap.size := by omega
            have : w.heap.size + 1 < w0_.heap.size := by omega
            have : b8u3 < w0_.heap.size := by omega
            have : b9u3 < w0_.heap.size := by omega
            have : b10u3 < w0_.heap.size := by omega
            simp only [DepsR, Region.binds, Nat.zero_add, Nat.reduceAdd, true_implies, Bool.false_eq_true, false_implies, and_true, true_and, BEq.rfl, reduceCtorEq] at hd_
            go_simp
            exact hK_.out _ _ _ (by first | rfl | (simp only [Act.put, List.setIfInBounds_toArray, List.set_cons_zero, List.set_cons_succ, hd_]; done) | (simp only [Act.put, List.setIfInBounds_toArray, List.set_cons_zero, List.set_cons_succ, hd_]; rfl)) (Below.refl _ _) rfl (fun h => by cases h)
          · intro w0_ hF_ hd_ Q_ K_ hK_
            have hc0_ := (bcell hF_).1
            have hf0_ := (bcell hF_).2
            have hz0_ := hF_.size; (try simp at hz0_)
            (try simp at hc0_ hf0_)
            have : w.heap.size < w0_.heap.size := by omega
            have : w.heap.size + 1 < w0_.heap.size := by omega
            have : b8u3 < w0_.heap.size := by omega
            have : b9u3 < w0_.heap.size := by omega
            have : b10u3 < w0_.heap.size := by omega
            simp only [DepsR, Region.binds, Nat.zero_add, Nat.reduceAdd, true_implies, Bool.false_eq_true, false_implies, and_true, true_and, BEq.rfl, reduceCtorEq] at hd_
            go_simp
            exact hK_.out _ _ _ (by first | rfl | (simp only [Act.put, List.setIfInBounds_toArray, List.set_cons_zero, List.set_cons_succ, hd_]; done) | (simp only [Act.put, List.setIfInBounds_toArray, List.set_cons_zero, List.set_cons_succ, hd_]; rfl)) (Below.refl _ _) rfl (fun h => by cases h)
          · intro w0_ hF_ hd_ Q_ K_ hK_
            have hc0_ := (bcell hF_).1
            have hf0_ := (bcell hF_).2
            have hz0_ := hF_.size; (try simp at hz0_)
            (try simp at hc0_ hf0_)
            have : w.heap.size < w0_.heap.size := by omega
            have : w.heap.size + 1 < w0_.heap.size := by omega
            have : b8u3 < w0_.heap.size := by omega
            have : b9u3 < w0_.heap.size := by omega
            have : b10u3 < w0_.heap.size := by omega
            simp only [DepsR, Region.binds, Nat.zero_add, Nat.reduceAdd, true_implies, Bool.false_eq_true, false_implies, and_true, true_and, BEq.rfl, reduceCtorEq] at hd_
            go_simp
            exact hK_.out _ _ _ (by first | rfl | (simp only [Act.put, List.setIfInBounds_toArray, List.set_cons_zero, List.set_cons_succ, hd_]; done) | (simp only [Act.put, List.setIfInBounds_toArray, List.set_cons_zero, List.set_cons_succ, hd_]; rfl)) (Below.refl _ _) rfl (fun h => by cases h)
          · intro w0_ hF_ hd_ Q_ K_ hK_
            have hc0_ := (bcell hF_).1
            have hf0_ := (bcell hF_).2
            have hz0_ := hF_.size; (try simp at hz0_)
            (try simp at hc0_ hf0_)
            have : w.heap.size < w0_.heap.size := by omega
            have : w.heap.size + 1 < w0_.heap.size := by omega
            have : b8u3 < w0_.heap.size := by omega
            have : b9u3 < w0_.heap.size := by omega
            have : b10u3 < w0_.heap.size := by omega
            simp only [DepsR, Region.binds, Nat.zero_add, Nat.reduceAdd, true_implies, Bool.false_eq_true, false_implies, and_true, true_and, BEq.rfl, reduceCtorEq] at hd_
            go_simp
            exact hK_.out _ _ _ (by first | rfl | (simp only [Act.put, List.setIfInBounds_toArray, List.set_cons_zero, List.set_cons_succ, hd_]; done) | (simp only [Act.put, List.setIfInBounds_toArray, List.set_cons_zero, List.set_cons_succ, hd_]; rfl)) (Below.refl _ _) rfl (fun h => by cases h)
          · intro w0_ hF_ hd_ Q_ K_ hK_
            have hc0_ := (bcell hF_).1
            have hf0_ := (bcell hF_).2
            have hz0_ := hF_.size; (try simp at hz0_)
            (try simp at hc0_ hf0_)
            have : w.heap.size < w0_.heap.size := by omega
            have : w.heap.size + 1 < w0_.heap.size := by omega
            have : b8u3 < w0_.heap.size := by omega
            have : b9u3 < w0_.heap.size := by omega
            have : b10u3 < w0_.heap.size := by omega
            simp only [DepsR, Region.binds, Nat.zero_add, Nat.reduceAdd, true_implies, Bool.false_eq_true, false_implies, and_true, true_and, BEq.rfl, reduceCtorEq] at hd_
            go_simp
            exact hK_.out _ _ _ (by first | rfl | (simp only [Act.put, List.setIfInBounds_toArray, List.set_cons_zero, List.set_cons_succ, hd_]; done) | (simp only [Act.put, List.setIfInBounds_toArray, List.set_cons_zero, List.set_cons_succ, hd_]; rfl)) (Below.refl _ _) rfl (fun h => by cases h)
          · intro w0_ hF_ hd_ Q_ K_ hK_
            have hc0_ := (bcell hF_).1
            have hf0_ := (bcell hF_).2
            have hz0_ := hF_.size; (try simp at hz0_)
            (try simp at hc0_ hf0_)
            have : w.heap.size < w0_.heap.size := by omega
            have : w.heap.size + 1 < w0_.heap.size := by omega
            have : b8u3 < w0_.heap.size := by omega
            have : b9u3 < w0_.heap.size := by omega
            have : b10u3 < w0_.heap.size := by omega
            simp only [DepsR, Region.binds, Nat.zero_add, Nat.reduceAdd, true_implies, Bool.false_eq_true, false_implies, and_true, true_and, BEq.rfl, reduceCtorEq] at hd_
            go_simp
            exact hK_.out _ _ _ (by first | rfl | (simp only [Act.put, List.setIfInBounds_toArray, List.set_cons_zero, List.set_cons_succ, hd_]; done) | (simp only [Act.put, List.setIfInBounds_toArray, List.set_cons_zero, List.set_cons_succ, hd_]; rfl)) (Below.refl _ _) rfl (fun h => by cases h)
          · intro w0_ hF_ hd_ Q_ K_ hK_
            have hc0_ := (bcell hF_).1
            have hf0_ := (bcell hF_).2
            have hz0_ := hF_.size; (try simp at hz0_)
            (try simp at hc0_ hf0_)
            have : w.heap.size < w0_.heap.size := by omega
            have : w.heap.size + 1 < w0_.heap.size := by omega
            have : b8u3 < w0_.heap.size := by omega
            have : b9u3 < w0_.heap.size := by omega
            have : b10u3 < w0_.heap.size := by omega
            simp only [DepsR, Region.binds, Nat.zero_add, Nat.reduceAdd, true_implies, Bool.false_eq_true, false_implies, and_true, true_and, BEq.rfl, reduceCtorEq] at hd_
            go_simp
            exact hK_.out _ _ _ (by first | rfl | (simp only [Act.put, List.setIfInBounds_toArray, List.set_cons_zero, List.set_cons_succ, hd_]; done) | (simp only [Act.put, List.setIfInBounds_toArray, List.set_cons_zero, List.set_cons_succ, hd_]; rfl)) (Below.refl _ _) rfl (fun h => by cases h)
          · intro w0_ hF_ hd_ Q_ K_ hK_
            have hc0_ := (bcell hF_).1
            have hf0_ := (bcell hF_).2
            have hz0_ := hF_.size; (try simp at hz0_)
            (try simp at hc0_ hf0_)
            have : w.heap.size < w0_.heap.size := by omega
            have : w.heap.size + 1 < w0_.heap.size := by omega
            have : b8u3 < w0_.heap.size := by omega
            have : b9u3 < w0_.heap.size := by omega
            have : b10u3 < w0_.heap.size := by omega
            simp only [DepsR, Region.binds, Nat.zero_add, Nat.reduceAdd, true_implies, Bool.false_eq_true, false_implies, and_true, true_and, BEq.rfl, reduceCtorEq] at hd_
            go_simp
            refine (H5.out _).mono ?_
            rintro e_ w1_ ⟨rfl, hb_⟩
            exact hK_.out _ _ _ (by first | rfl | (simp only [Act.put, List.setIfInBounds_toArray, List.set_cons_zero, List.set_cons_succ, hd_]; done) | (simp only [Act.put, List.setIfInBounds_toArray, List.set_cons_zero, List.set_cons_succ, hd_]; rfl)) hb_ rfl (fun h => by cases h)
          · intro w0_ hF_ hd_ Q_ K_ hK_
            have hc0_ := (bcell hF_).1
            have hf0_ := (bcell hF_).2
            have hz0_ := hF_.size; (try simp at hz0_)
            (try simp at hc0_ hf0_)
            have : w.heap.size < w0_.heap.size := by omega
            have : w.heap.size + 1 < w0_.heap.size := by omega
            have : b8u3 < w0_.heap.size := by omega
            have : b9u3 < w0_.heap.size := by omega
            have : b10u3 < w0_.heap.size := by omega
            simp only [DepsR, Region.binds, Nat.zero_add, Nat.reduceAdd, true_implies, Bool.false_eq_true, false_implies, and_true, true_and, BEq.rfl, reduceCtorEq] at hd_
            go_simp
            exact hK_.out _ _ _ (by first | rfl | (simp only [Act.put, List.setIfInBounds_toArray, List.set_cons_zero, List.set_cons_succ, hd_]; done) | (simp only [Act.put, List.setIfInBounds_toArray, List.set_cons_zero, List.set_cons_succ, hd_]; rfl)) (Below.refl _ _) rfl (fun h => by cases h)
          · intro w0_ hF_ hd_ Q_ K_ hK_
            have hc0_ := (bcell hF_).1
            have hf0_ := (bcell hF_).2
            have hz0_ := hF_.size; (try simp at hz0_)
            (try simp at hc0_ hf0_)
            have : w.heap.size < w0_.heap.size := by omega
            have : w.heap.size + 1 < w0_.heap.size := by omega
            have : b8u3 < w0_.heap.size := by omega
            have : b9u3 < w0_.heap.size := by omega
            have : b10u3 < w0_.heap.size := by omega
            simp only [DepsR, Region.binds, Nat.zero_add, Nat.reduceAdd, true_implies, Bool.false_eq_true, false_implies, and_true, true_and, BEq.rfl, reduceCtorEq] at hd_
            go_simp
            exact hK_.out _ _ _ (by first | rfl | (simp only [Act.put, List.setIfInBounds_toArray, List.set_cons_zero, List.set_cons_succ, hd_]; done) | (simp only [Act.put, List.setIfInBounds_toArray, List.set_cons_zero, List.set_cons_succ, hd_]; rfl)) (Below.refl _ _) rfl (fun h => by cases h)
          · intro w0_ hF_ hd_ Q_ K_ hK_
            have hc0_ := (bcell hF_).1
            have hf0_ := (bcell hF_).2
            have hz0_ := hF_.size; (try simp at hz0_)
            (try simp at hc0_ hf0_)
            have : w.heap.size < w0_.heap.size := by omega
            have : w.heap.size + 1 < w0_.heap.size := by omega
            have : b8u3 < w0_.heap.size := by omega
            have : b9u3 < w0_.heap.size := by omega
            have : b10u3 < w0_.heap.size := by omega
            simp only [DepsR, Region.binds, Nat.zero_add, Nat.reduceAdd, true_implies, Bool.false_eq_true, false_implies, and_true, true_and, BEq.rfl, reduceCtorEq] at hd_
            go_simp
            refine (H3.out _).mono ?_
            rintro e_ w1_ ⟨rfl, hb_⟩
            exact hK_.out _ _ _ (by first | rfl | (simp only [Act.put, List.setIfInBounds_toArray, List.set_cons_zero, List.set_cons_succ, hd_]; done) | (simp only [Act.put, List.setIfInBounds_toArray, List.set_cons_zero, List.set_cons_succ, hd_]; rfl)) hb_ rfl (fun h => by cases h)
          · intro w0_ hF_ hd_ Q_ K_ hK_
            have hc0_ := (bcell hF_).1
            have hf0_ := (bcell hF_).2
            have hz0_ := hF_.size; (try simp at hz0_)
            (try simp at hc0_ hf0_)
            have : w.heap.size < w0_.heap.size := by omega
            have : w.heap.size + 1 < w0_.heap.size := by omega
            have : b8u3 < w0_.heap.size := by omega
            have : b9u3 < w0_.heap.size := by omega
            have : b10u3 < w0_.heap.size := by omega
            simp only [DepsR, Region.binds, Nat.zero_add, Nat.reduceAdd, true_implies, Bool.false_eq_true, false_implies, and_true, true_and, BEq.rfl, reduceCtorEq] at hd_
            go_simp
            exact hK_.out _ _ _ (by first | rfl | (simp only [Act.put, List.setIfInBounds_toArray, List.set_cons_zero, List.set_cons_succ, hd_]; done) | (simp only [Act.put, List.setIfInBounds_toArray, List.set_cons_zero, List.set_cons_succ, hd_]; rfl)) (Below.refl _ _) rfl (fun h => by cases h)
          · intro w0_ hF_ hd_ Q_ K_ hK_
            have hc0_ := (bcell hF_).1
            have hf0_ := (bcell hF_).2
            have hz0_ := hF_.size; (try simp at hz0_)
            (try simp at hc0_ hf0_)
            have : w.heap.size < w0_.heap.size := by omega
            have : w.heap.size + 1 < w0_.heap.size := by omega
            have : b8u3 < w0_.heap.size := by omega
            have : b9u3 < w0_.heap.size := by omega
            have : b10u3 < w0_.heap.size := by omega
            simp only [DepsR, Region.binds, Nat.zero_add, Nat.reduceAdd, true_implies, Bool.false_eq_true, false_implies, and_true, true_and, BEq.rfl, reduceCtorEq] at hd_
            go_simp
            exact hK_.out _ _ _ (by first | rfl | (simp only [Act.put, List.setIfInBounds_toArray, List.set_cons_zero, List.set_cons_succ, hd_]; done) | (simp only [Act.put, List.setIfInBounds_toArray, List.set_cons_zero, List.set_cons_succ, hd_]; rfl)) (Below.refl _ _) rfl (fun h => by cases h)
          · intro w0_ hF_ hd_ Q_ K_ hK_
            have hc0_ := (bcell hF_).1
            have hf0_ := (bcell hF_).2
            have hz0_ := hF_.size; (try simp at hz0_)
            (try simp at hc0_ hf0_)
            have : w.heap.size < w0_.heap.size := by omega
            have : w.heap.size + 1 < w0_.heap.size := by omega
            have : b8u3 < w0_.heap.size := by omega
            have : b9u3 < w0_.heap.size := by omega
            have : b10u3 < w0_.heap.size := by omega
            simp only [DepsR, Region.binds, Nat.zero_add, Nat.reduceAdd, true_implies, Bool.false_eq_true, false_implies, and_true, true_and, BEq.rfl, reduceCtorEq] at hd_
            go_simp
            exact hK_.out _ _ _ (by first | rfl | (simp only [Act.put, List.setIfInBounds_toArray, List.set_cons_zero, List.set_cons_succ, hd_]; done) | (simp only [Act.put, List.setIfInBounds_toArray, List.set_cons_zero, List.set_cons_succ, hd_]; rfl)) (Below.refl _ _) rfl (fun h => by cases h)
          · intro w0_ hF_ hd_ Q_ K_ hK_
            have hc0_ := (bcell hF_).1
            have hf0_ := (bcell hF_).2
            have hz0_ := hF_.size; (try simp at hz0_)
            (try simp at hc0_ hf0_)
            have : w.heap.size < w0_.heap.size := by omega
            have : w.heap.size + 1 < w0_.heap.size := by omega
            have : b8u3 < w0_.heap.size := by omega
            have : b9u3 < w0_.heap.size := by omega
            have : b10u3 < w0_.heap.size := by omega
            simp only [DepsR, Region.binds, Nat.zero_add, Nat.reduceAdd, true_implies, Bool.false_eq_true, false_implies, and_true, true_and, BEq.rfl, reduceCtorEq] at hd_
            go_simp
            exact hK_.out _ _ _ (by first | rfl | (simp only [Act.put, List.setIfInBounds_toArray, List.set_cons_zero, List.set_cons_succ, hd_]; done) | (simp only [Act.put, List.setIfInBounds_toArray, List.set_cons_zero, List.set_cons_succ, hd_]; rfl)) (Below.refl _ _) rfl (fun h => by cases h)
          · intro w0_ hF_ hd_ Q_ K_ hK_
            have hc0_ := (bcell hF_).1
            have hf0_ := (bcell hF_).2
            have hz0_ := hF_.size; (try simp at hz0_)
            (try simp at hc0_ hf0_)
            have : w.heap.size < w0_.heap.size := by omega
            have : w.heap.size + 1 < w0_.heap.size := by omega
            have : b8u3 < w0_.heap.size := by omega
            have : b9u3 < w0_.heap.size := by omega
            have : b10u3 < w0_.heap.size := by omega
            simp only [DepsR, Region.binds, Nat.zero_add, Nat.reduceAdd, true_implies, Bool.false_eq_true, false_implies, and_true, true_and, BEq.rfl, reduceCtorEq] at hd_
            go_simp
            refine (N2.out _).mono ?_
            rintro e_ w1_ ⟨rfl, hb_⟩
            exact hK_.out _ _ _ (by first | rfl | (simp only [Act.put, List.setIfInBounds_toArray, List.set_cons_zero, List.set_cons_succ, hd_]; done) | (simp only [Act.put, List.setIfInBounds_toArray, List.set_cons_zero, List.set_cons_succ, hd_]; rfl)) hb_ rfl (fun h => by cases h)
          · intro w0_ hF_ hd_ Q_ K_ hK_
            have hc0_ := (bcell hF_).1
            have hf0_ := (bcell hF_).2
            have hz0_ := hF_.size; (try simp at hz0_)
            (try simp at hc0_ hf0_)
            have : w.heap.size < w0_.heap.size := by omega
            have : w.heap.size + 1 < w0_.heap.size := by omega
            have : b8u3 < w0_.heap.size := by omega
            have : b9u3 < w0_.heap.size := by omega
            have : b10u3 < w0_.heap.size := by omega
            simp only [DepsR, Region.binds, Nat.zero_add, Nat.reduceAdd, true_implies, Bool.false_eq_true, false_implies, and_true, true_and, BEq.rfl, reduceCtorEq] at hd_
            go_simp
            exact hK_.out _ _ _ (by first | rfl | (simp only [Act.put, List.setIfInBounds_toArray, List.set_cons_zero, List.set_cons_succ, hd_]; done) | (simp only [Act.put, List.setIfInBounds_toArray, List.set_cons_zero, List.set_cons_succ, hd_]; rfl)) (Below.refl _ _) rfl (fun h => by cases h)
          · intro w0_ hF_ hd_ Q_ K_ hK_
            have hc0_ := (bcell hF_).1
            have hf0_ := (bcell hF_).2
            have hz0_ := hF_.size; (try simp at hz0_)
            (try simp at hc0_ hf0_)
            have : w.heap.size < w0_.heap.size := by omega
            have : w.heap.size + 1 < w0_.heap.size := by omega
            have : b8u3 < w0_.heap.size := by omega
            have : b9u3 < w0_.heap.size := by omega
            have : b10u3 < w0_.heap.size := by omega
            simp only [DepsR, Region.binds, Nat.zero_add, Nat.reduceAdd, true_implies, Bool.false_eq_true, false_implies, and_true, true_and, BEq.rfl, reduceCtorEq] at hd_
            go_simp
            exact hK_.out _ _ _ (by first | rfl | (simp only [Act.put, List.setIfInBounds_toArray, List.set_cons_zero, List.set_cons_succ, hd_]; done) | (simp only [Act.put, List.setIfInBounds_toArray, List.set_cons_zero, List.set_cons_succ, hd_]; rfl)) (Below.refl _ _) rfl (fun h => by cases h)
          · intro w0_ hF_ hd_ Q_ K_ hK_
            have hc0_ := (bcell hF_).1
            have hf0_ := (bcell hF_).2
            have hz0_ := hF_.size; (try simp at hz0_)
            (try simp at hc0_ hf0_)
            have : w.heap.size < w0_.heap.size := by omega
            have : w.heap.size + 1 < w0_.heap.size := by omega
            have : b8u3 < w0_.heap.size := by omega
            have : b9u3 < w0_.heap.size := by omega
            have : b10u3 < w0_.heap.size := by omega
            simp only [DepsR, Region.binds, Nat.zero_add, Nat.reduceAdd, true_implies, Bool.false_eq_true, false_implies, and_true, true_and, BEq.rfl, reduceCtorEq] at hd_
            go_simp
            exact hK_.out _ _ _ (by first | rfl | (simp only [Act.put, List.setIfInBounds_toArray, List.set_cons_zero, List.set_cons_succ, hd_]; done) | (simp only [Act.put, List.setIfInBounds_toArray, List.set_cons_zero, List.set_cons_succ, hd_]; rfl)) (Below.refl _ _) rfl (fun h => by cases h)
        · intro vs u4 hBu4 hA_ hD_
          simp only [AllR, Nat.zero_add, Nat.reduceAdd, and_true] at hA_
          obtain ⟨r0_, r1_, r2_, r3_, r4_, r5_, r6_, r7_, r8_, r9_, r10_, r11_, r12_, r13_, r14_, r15_, r16_, r17_, r18_, r19_, r20_, r21_, r22_, r23_, r24_, r25_, r26_, r27_, r28_, r29_, r30_, r31_, r32_, r33_, r34_, r35_, r36_, r37_, r38_, r39_, r40_⟩ := hA_
          clear hD_
          simp only [putAll, Act.put, List.setIfInBounds_toArray, List.set_cons_zero, List.set_cons_succ, Nat.zero_add, Nat.reduceAdd, r0_, r1_, r2_, r3_, r4_, r5_, r6_, r7_, r8_, r9_, r10_, r11_, r12_, r13_, r14_, r15_, r16_, r17_, r18_, r19_, r20_, r21_, r22_, r23_, r24_, r25_, r26_, r27_, r28_, r29_, r30_, r31_, r32_, r33_, r34_, r35_, r36_, r37_, r38_, r39_, r40_]
          clear r0_ r1_ r2_ r3_ r4_ r5_ r6_ r7_ r8_ r9_ r10_ r11_ r12_ r13_ r14_ r15_ r16_ r17_ r18_ r19_ r20_ r21_ r22_ r23_ r24_ r25_ r26_ r27_ r28_ r29_ r30_ r31_ r32_ r33_ r34_ r35_ r36_ r37_ r38_ r39_ r40_
          obtain ⟨hcu4, hfu4⟩ := bcell hBu4; (try simp only [World.size_drew, World.cell?_drew, World.frozen?_drew] at hcu4 hfu4); have hzu4 := hBu4.size; (try simp at hzu4)
          have : w.heap.size < u4.heap.size := by omega
          have : w.heap.size + 1 < u4.heap.size := by omega
          have : b8u3 < u4.heap.size := by omega
          have : b9u3 < u4.heap.size := by omega
          have : b10u3 < u4.heap.size := by omega
          go_wp2_with fail
          go_meet
          case rel => exact ⟨rfl, hBu4⟩
      · skip
        refine wp_region_keep (t := fun j => j) (al := fun _ => false) (loud := fun _ => false)
          (R := fun j v u w' => match j with
            | 0 => v = setV r
            | 1 => v = .int .u8 (c : Int)
            | 2 => v = .bool (false && br)
            | 3 => v = .int .u8 (fa : Int)
            | 4 => v = .int .u8 (c : Int)
            | 5 => v = .bool false
            | 6 => v = .bool false
            | 7 => v = undef
            | 8 => v = undef
            | 9 => v = undef
            | 10 => v = .bool false
            | 11 => v = .bool false
            | 12 => v = .bool false
            | 13 => v = setV o
            | 14 => v = .int .u8 (c : Int)
            | 15 => v = .bool (false || qc)
            | 16 => v = setV p
            | 17 => v = .int .u8 (c : Int)
            | 18 => v = .bool false
            | 19 => v = .bool false
            | 20 => v = setV q
            | 21 => v = .int .u8 (c : Int)
            | 22 => v = .bool qc
            | 23 => v = .bool qc
            | 24 => v = .bool false
            | 25 => v = .bool false
            | 26 => v = .bool false
            | 27 => v = setV n
            | 28 => v = .int .u8 (c : Int)
            | 29 => v = .bool (!false)
            | 30 => v = setV p
            | 31 => v = .int .u8 (c : Int)
            | 32 => v = .bool false
            | 33 => v = .bool false
            | 34 => v = .bool false
            | 35 => v = .bool false
            | 36 => v = setV n
            | 37 => v = setV p
            | 38 => v = setV p
            | 39 => v = .bool false
            | 40 => v = .bool false
            | _ => True) (by kernel_rfl) (by kernel_rfl) (by kernel_rfl) ?_ ?_ ?_ ?_
        · intro j v u w1_ w2_ h_ hF_ hB_
          (try dsimp only at h_ ⊢)
          split at h_ <;> first | (with_reducible exact h_) | (with_reducible exact NewR.on h_ hB_) | (with_reducible exact HasR.on h_ hB_) | exact IsNum.on h_ hB_ | exact HasNum.on h_ hB_ | exact RHeld.on h_ hB_ | trivial | exact h_
        · intro j v u w1_ h1_ h_
          cases h1_
        · intro vs
          simp only [putAll, Act.put, List.setIfInBounds_toArray, List.set_cons_zero, List.set_cons_succ, Nat.zero_add, Nat.reduceAdd]
          refine ⟨?_, ?_, ?_, ?_, ?_, ?_, ?_, ?_, ?_, ?_, ?_, ?_, ?_, ?_, ?_, ?_, ?_, ?_, ?_, ?_, ?_, ?_, ?_, ?_, ?_, ?_, ?_, ?_, ?_, ?_, ?_, ?_, ?_, ?_, ?_, ?_, ?_, ?_, ?_, ?_, ?_, trivial⟩
          · intro w0_ hF_ hd_ Q_ K_ hK_
            have hc0_ := (bcell hF_).1
            have hf0_ := (bcell hF_).2
            have hz0_ := hF_.size; (try simp at hz0_)
            (try simp at hc0_ hf0_)
            have : w.heap.size < w0_.heap.size := by omega
            have : w.heap.size + 1 < w0_.heap.size := by omega
            have : b8u3 < w0_.heap.size := by omega
            have : b9u3 < w0_.heap.size := by omega
            have : b10u3 < w0_.heap.size := by omega
            simp only [DepsR, Region.binds, Nat.zero_add, Nat.reduceAdd, true_implies, Bool.false_eq_true, false_implies, and_true, true_and, BEq.rfl, reduceCtorEq] at hd_
            go_simp
            exact hK_.out _ _ _ (by first | rfl | (simp only [Act.put, List.setIfInBounds_toArray, List.set_cons_zero, List.set_cons_succ, hd_]; done) | (simp only [Act.put, List.setIfInBounds_toArray, List.set_cons_zero, List.set_cons_succ, hd_]; rfl)) (Below.refl _ _) rfl (fun h => by cases h)
          · intro w0_ hF_ hd_ Q_ K_ hK_
            have hc0_ := (bcell hF_).1
            have hf0_ := (bcell hF_).2
            have hz0_ := hF_.size; (try simp at hz0_)
            (try simp at hc0_ hf0_)
            have : w.heap.size < w0_.heap.size := by omega
            have : w.heap.size + 1 < w0_.heap.size := by omega
            have : b8u3 < w0_.heap.size := by omega
            have : b9u3 < w0_.heap.size := by omega
            have : b10u3 < w0_.heap.size := by omega
            simp only [DepsR, Region.binds, Nat.zero_add, Nat.reduceAdd, true_implies, Bool.false_eq_true, false_implies, and_true, true_and, BEq.rfl, reduceCtorEq] at hd_
            go_simp
            exact hK_.out _ _ _ (by first | rfl | (simp only [Act.put, List.setIfInBounds_toArray, List.set_cons_zero, List.set_cons_succ, hd_]; done) | (simp only [Act.put, List.setIfInBounds_toArray, List.set_cons_zero, List.set_cons_succ, hd_]; rfl)) (Below.refl _ _) rfl (fun h => by cases h)
          · intro w0_ hF_ hd_ Q_ K_ hK_
            have hc0_ := (bcell hF_).1
            have hf0_ := (bcell hF_).2
            have hz0_ := hF_.size; (try simp at hz0_)
            (try simp at hc0_ hf0_)
            have : w.heap.size < w0_.heap.size := by omega
            have : w.heap.size + 1 < w0_.heap.size := by omega
            have : b8u3 < w0_.heap.size := by omega
            have : b9u3 < w0_.heap.size := by omega
            have : b10u3 < w0_.heap.size := by omega
            simp only [DepsR, Region.binds, Nat.zero_add, Nat.reduceAdd, true_implies, Bool.false_eq_true, false_implies, and_true, true_and, BEq.rfl, reduceCtorEq] at hd_
            go_simp
            refine (H1.out _).mono ?_
            rintro e_ w1_ ⟨rfl, hb_⟩
            exact hK_.out _ _ _ (by first | rfl | (simp only [Act.put, List.setIfInBounds_toArray, List.set_cons_zero, List.set_cons_succ, hd_]; done) | (simp only [Act.put, List.setIfInBounds_toArray, List.set_cons_zero, List.set_cons_succ, hd_]; rfl)) hb_ rfl (fun h => by cases h)
          · intro w0_ hF_ hd_ Q_ K_ hK_
            have hc0_ := (bcell hF_).1
            have hf0_ := (bcell hF_).2
            have hz0_ := hF_.size; (try simp at hz0_)
            (try simp at hc0_ hf0_)
            have : w.heap.size < w0_.heap.size := by omega
            have : w.heap.size + 1 < w0_.heap.size := by omega
            have : b8u3 < w0_.heap.size := by omega
            have : b9u3 < w0_.heap.size := by omega
            have : b10u3 < w0_.heap.size := by omega
            simp only [DepsR, Region.binds, Nat.zero_add, Nat.reduceAdd, true_implies, Bool.false_eq_true, false_implies, and_true, true_and, BEq.rfl, reduceCtorEq] at hd_
            go_simp
            exact hK_.out _ _ _ (by first | rfl | (simp only [Act.put, List.setIfInBounds_toArray, List.set_cons_zero, List.set_cons_succ, hd_]; done) | (simp only [Act.put, List.setIfInBounds_toArray, List.set_cons_zero, List.set_cons_succ, hd_]; rfl)) (Below.refl _ _) rfl (fun h => by cases h)
          · intro w0_ hF_ hd_ Q_ K_ hK_
            have hc0_ := (bcell hF_).1
            have hf0_ := (bcell hF_).2
            have hz0_ := hF_.size; (try simp at hz0_)
            (try simp at hc0_ hf0_)
            have : w.heap.size < w0_.heap.size := by omega
            have : w.heap.size + 1 < w0_.heap.size := by omega
            have : b8u3 < w0_.heap.size := by omega
            have : b9u3 < w0_.heap.size := by omega
            have : b10u3 < w0_.heap.size := by omega
            simp only [DepsR, Region.binds, Nat.zero_add, Nat.reduceAdd, true_implies, Bool.false_eq_true, false_implies, and_true, true_and, BEq.rfl, reduceCtorEq] at hd_
            go_simp
            exact hK_.out _ _ _ (by first | rfl | (simp only [Act.put, List.setIfInBounds_toArray, List.set_cons_zero, List.set_cons_succ, hd_]; done) | (simp only [Act.put, List.setIfInBounds_toArray, List.set_cons_zero, List.set_cons_succ, hd_]; rfl)) (Below.refl _ _) rfl (fun h => by cases h)
          · intro w0_ hF_ hd_ Q_ K_ hK_
            have hc0_ := (bcell hF_).1
            have hf0_ := (bcell hF_).2
            have hz0_ := hF_.size; (try simp at hz0_)
            (try simp at hc0_ hf0_)
            have : w.heap.size < w0_.heap.size := by omega
            have : w.heap.size + 1 < w0_.heap.size := by omega
            have : b8u3 < w0_.heap.size := by omega
            have : b9u3 < w0_.heap.size := by omega
            have : b10u3 < w0_.heap.size := by omega
            simp only [DepsR, Region.binds, Nat.zero_add, Nat.reduceAdd, true_implies, Bool.false_eq_true, false_implies, and_true, true_and, BEq.rfl, reduceCtorEq] at hd_
            go_simp
            exact hK_.out _ _ _ (by first | rfl | (simp only [Act.put, List.setIfInBounds_toArray, List.set_cons_zero, List.set_cons_succ, hd_]; done) | (simp only [Act.put, List.setIfInBounds_toArray, List.set_cons_zero, List.set_cons_succ, hd_]; rfl)) (Below.refl _ _) rfl (fun h => by cases h)
          · intro w0_ hF_ hd_ Q_ K_ hK_
            have hc0_ := (bcell hF_).1
            have hf0_ := (bcell hF_).2
            have hz0_ := hF_.size; (try simp at hz0_)
            (try simp at hc0_ hf0_)
            have : w.heap.size < w0_.heap.size := by omega
            have : w.heap.size + 1 < w0_.heap.size := by omega
            have : b8u3 < w0_.heap.size := by omega
            have : b9u3 < w0_.heap.size := by omega
            have : b10u3 < w0_.heap.size := by omega
            simp only [DepsR, Region.binds, Nat.zero_add, Nat.reduceAdd, true_implies, Bool.false_eq_true, false_implies, and_true, true_and, BEq.rfl, reduceCtorEq] at hd_
            go_simp
            exact hK_.out _ _ _ (by first | rfl | (simp only [Act.put, List.setIfInBounds_toArray, List.set_cons_zero, List.set_cons_succ, hd_]; done) | (simp only [Act.put, List.setIfInBounds_toArray, List.set_cons_zero, List.set_cons_succ, hd_]; rfl)) (Below.refl _ _) rfl (fun h => by cases h)
          · intro w0_ hF_ hd_ Q_ K_ hK_
            have hc0_ := (bcell hF_).1
            have hf0_ := (bcell hF_).2
            have hz0_ := hF_.size; (try simp at hz0_)
            (try simp at hc0_ hf0_)
            have : w.heap.size < w0_.heap.size := by omega
            have : w.heap.size + 1 < w0_.heap.size := by omega
            have : b8u3 < w0_.heap.size := by omega
            have : b9u3 < w0_.heap.size := by omega
            have : b10u3 < w0_.heap.size := by omega
            simp only [DepsR, Region.binds, Nat.zero_add, Nat.reduceAdd, true_implies, Bool.false_eq_true, false_implies, and_true, true_and, BEq.rfl, reduceCtorEq] at hd_
            go_simp
            exact hK_.out _ _ _ (by first | rfl | (simp only [Act.put, List.setIfInBounds_toArray, List.set_cons_zero, List.set_cons_succ, hd_]; done) | (simp only [Act.put, List.setIfInBounds_toArray, List.set_cons_zero, List.set_cons_succ, hd_]; rfl)) (Below.refl _ _) rfl (fun h => by cases h)
          · intro w0_ hF_ hd_ Q_ K_ hK_
            have hc0_ := (bcell hF_).1
            have hf0_ := (bcell hF_).2
            have hz0_ := hF_.size; (try simp at hz0_)
            (try simp at hc0_ hf0_)
            have : w.heap.size < w0_.heap.size := by omega
            have : w.heap.size + 1 < w0_.heap.size := by omega
            have : b8u3 < w0_.heap.size := by omega
            have : b9u3 < w0_.heap.size := by omega
            have : b10u3 < w0_.heap.size := by omega
            simp only [DepsR, Region.binds, Nat.zero_add, Nat.reduceAdd, true_implies, Bool.false_eq_true, false_implies, and_true, true_and, BEq.rfl, reduceCtorEq] at hd_
            go_simp
            exact hK_.out _ _ _ (by first | rfl | (simp only [Act.put, List.setIfInBounds_toArray, List.set_cons_zero, List.set_cons_succ, hd_]; done) | (simp only [Act.put, List.setIfInBounds_toArray, List.set_cons_zero, List.set_cons_succ, hd_]; rfl)) (Below.refl _ _) rfl (fun h => by cases h)
          · intro w0_ hF_ hd_ Q_ K_ hK_
            have hc0_ := (bcell hF_).1
            have hf0_ := (bcell hF_).2
            have hz0_ := hF_.size; (try simp at hz0_)
            (try simp at hc0_ hf0_)
            have : w.heap.size < w0_.heap.size := by omega
            have : w.heap.size + 1 < w0_.heap.size := by omega
            have : b8u3 < w0_.heap.size := by omega
            have : b9u3 < w0_.heap.size := by omega
            have : b10u3 < w0_.heap.size := by omega
            simp only [DepsR, Region.binds, Nat.zero_add, Nat.reduceAdd, true_implies, Bool.false_eq_true, false_implies, and_true, true_and, BEq.rfl, reduceCtorEq] at hd_
            go_simp
            exact hK_.out _ _ _ (by first | rfl | (simp only [Act.put, List.setIfInBounds_toArray, List.set_cons_zero, List.set_cons_succ, hd_]; done) | (simp only [Act.put, List.setIfInBounds_toArray, List.set_cons_zero, List.set_cons_succ, hd_]; rfl)) (Below.refl _ _) rfl (fun h => by cases h)
          · intro w0_ hF_ hd_ Q_ K_ hK_
            have hc0_ := (bcell hF_).1
            have hf0_ := (bcell hF_).2
            have hz0_ := hF_.size; (try simp at hz0_)
            (try simp at hc0_ hf0_)
            have : w.heap.size < w0_.heap.size := by omega
            have : w.heap.size + 1 < w0_.heap.size := by omega
            have : b8u3 < w0_.heap.size := by omega
            have : b9u3 < w0_.heap.size := by omega
            have : b10u3 < w0_.heap.size := by omega
            simp only [DepsR, Region.binds, Nat.zero_add, Nat.reduceAdd, true_implies, Bool.false_eq_true, false_implies, and_true, true_and, BEq.rfl, reduceCtorEq] at hd_
            go_simp
            exact hK_.out _ _ _ (by first | rfl | (simp only [Act.put, List.setIfInBounds_toArray, List.set_cons_zero, List.set_cons_succ, hd_]; done) | (simp only [Act.put, List.setIfInBounds_toArray, List.set_cons_zero, List.set_cons_succ, hd_]; rfl)) (Below.refl _ _) rfl (fun h => by cases h)
          · intro w0_ hF_ hd_ Q_ K_ hK_
            have hc0_ := (bcell hF_).1
            have hf0_ := (bcell hF_).2
            have hz0_ := hF_.size; (try simp at hz0_)
            (try simp at hc0_ hf0_)
            have : w.heap.size < w0_.heap.size := by omega
            have : w.heap.size + 1 < w0_.heap.size := by omega
            have : b8u3 < w0_.heap.size := by omega
            have : b9u3 < w0_.heap.size := by omega
            have : b10u3 < w0_.heap.size := by omega
            simp only [DepsR, Region.binds, Nat.zero_add, Nat.reduceAdd, true_implies, Bool.false_eq_true, false_implies, and_true, true_and, BEq.rfl, reduceCtorEq] at hd_
            go_simp
            exact hK_.out _ _ _ (by first | rfl | (simp only [Act.put, List.setIfInBounds_toArray, List.set_cons_zero, List.set_cons_succ, hd_]; done) | (simp only [Act.put, List.setIfInBounds_toArray, List.set_cons_zero, List.set_cons_succ, hd_]; rfl)) (Below.refl _ _) rfl (fun h => by cases h)
          · intro w0_ hF_ hd_ Q_ K_ hK_
            have hc0_ := (bcell hF_).1
            have hf0_ := (bcell hF_).2
            have hz0_ := hF_.size; (try simp at hz0_)
            (try simp at hc0_ hf0_)
            have : w.heap.size < w0_.heap.size := by omega
            have : w.heap.size + 1 < w0_.heap.size := by omega
            have : b8u3 < w0_.heap.size := by omega
            have : b9u3 < w0_.heap.size := by omega
            have : b10u3 < w0_.heap.size := by omega
            simp only [DepsR, Region.binds, Nat.zero_add, Nat.reduceAdd, true_implies, Bool.false_eq_true, false_implies, and_true, true_and, BEq.rfl, reduceCtorEq] at hd_
            go_simp
            exact hK_.out _ _ _ (by first | rfl | (simp only [Act.put, List.setIfInBounds_toArray, List.set_cons_zero, List.set_cons_succ, hd_]; done) | (simp only [Act.put, List.setIfInBounds_toArray, List.set_cons_zero, List.set_cons_succ, hd_]; rfl)) (Below.refl _ _) rfl (fun h => by cases h)
          · intro w0_ hF_ hd_ Q_ K_ hK_
            have hc0_ := (bcell hF_).1
            have hf0_ := (bcell hF_).2
            have hz0_ := hF_.size; (try simp at hz0_)
            (try simp at hc0_ hf0_)
            have : w.heap.size < w0_.heap.size := by omega
            have : w.heap.size + 1 < w0_.heap.size := by omega
            have : b8u3 < w0_.heap.size := by omega
            have : b9u3 < w0_.heap.size := by omega
            have : b10u3 < w0_.heap.size := by omega
            simp only [DepsR, Region.binds, Nat.zero_add, Nat.reduceAdd, true_implies, Bool.false_eq_true, false_implies, and_true, true_and, BEq.rfl, reduceCtorEq] at hd_
            go_simp
            exact hK_.out _ _ _ (by first | rfl | (simp only [Act.put, List.setIfInBounds_toArray, List.set_cons_zero, List.set_cons_succ, hd_]; done) | (simp only [Act.put, List.setIfInBounds_toArray, List.set_cons_zero, List.set_cons_succ, hd_]; rfl)) (Below.refl _ _) rfl (fun h => by cases h)
          · intro w0_ hF_ hd_ Q_ K_ hK_
            have hc0_ := (bcell hF_).1
            have hf0_ := (bcell hF_).2
            have hz0_ := hF_.size; (try simp at hz0_)
            (try simp at hc0_ hf0_)
            have : w.heap.size < w0_.heap.size := by omega
            have : w.heap.size + 1 < w0_.heap.size := by omega
            have : b8u3 < w0_.heap.size := by omega
            have : b9u3 < w0_.heap.size := by omega
            have : b10u3 < w0_.heap.size := by omega
            simp only [DepsR, Region.binds, Nat.zero_add, Nat.reduceAdd, true_implies, Bool.false_eq_true, false_implies, and_true, true_and, BEq.rfl, reduceCtorEq] at hd_
            go_simp
            exact hK_.out _ _ _ (by first | rfl | (simp only [Act.put, List.setIfInBounds_toArray, List.set_cons_zero, List.set_cons_succ, hd_]; done) | (simp only [Act.put, List.setIfInBounds_toArray, List.set_cons_zero, List.set_cons_succ, hd_]; rfl)) (Below.refl _ _) rfl (fun h => by cases h)
          · intro w0_ hF_ hd_ Q_ K_ hK_
            have hc0_ := (bcell hF_).1
            have hf0_ := (bcell hF_).2
            have hz0_ := hF_.size; (try simp at hz0_)
            (try simp at hc0_ hf0_)
            have : w.heap.size < w0_.heap.size := by omega
            have : w.heap.size + 1 < w0_.heap.size := by omega
            have : b8u3 < w0_.heap.size := by omega
            have : b9u3 < w0_.heap.size := by omega
            have : b10u3 < w0_.heap.size := by omega
            simp only [DepsR, Region.binds, Nat.zero_add, Nat.reduceAdd, true_implies, Bool.false_eq_true, false_implies, and_true, true_and, BEq.rfl, reduceCtorEq] at hd_
            go_simp
            refine (H2.out _).mono ?_
            rintro e_ w1_ ⟨rfl, hb_⟩
            exact hK_.out _ _ _ (by first | rfl | (simp only [Act.put, List.setIfInBounds_toArray, List.set_cons_zero, List.set_cons_succ, hd_]; done) | (simp only [Act.put, List.setIfInBounds_toArray, List.set_cons_zero, List.set_cons_succ, hd_]; rfl)) hb_ rfl (fun h => by cases h)
          · intro w0_ hF_ hd_ Q_ K_ hK_
            have hc0_ := (bcell hF_).1
            have hf0_ := (bcell hF_).2
            have hz0_ := hF_.size; (try simp at hz0_)
            (try simp at hc0_ hf0_)
            have : w.heap.size < w0_.heap.size := by omega
            have : w.heap.size + 1 < w0_.heap.size := by omega
            have : b8u3 < w0_.heap.size := by omega
            have : b9u3 < w0_.heap.size := by omega
            have : b10u3 < w0_.heap.size := by omega
            simp only [DepsR, Region.binds, Nat.zero_add, Nat.reduceAdd, true_implies, Bool.false_eq_true, false_implies, and_true, true_and, BEq.rfl, reduceCtorEq] at hd_
            go_simp
            exact hK_.out _ _ _ (by first | rfl | (simp only [Act.put, List.setIfInBounds_toArray, List.set_cons_zero, List.set_cons_succ, hd_]; done) | (simp only [Act.put, List.setIfInBounds_toArray, List.set_cons_zero, List.set_cons_succ, hd_]; rfl)) (Below.refl _ _) rfl (fun h => by cases h)
          · intro w0_ hF_ hd_ Q_ K_ hK_
            have hc0_ := (bcell hF_).1
            have hf0_ := (bcell hF_).2
            have hz0_ := hF_.size; (try simp at hz0_)
            (try simp at hc0_ hf0_)
            have : w.heap.size < w0_.heap.size := by omega
            have : w.heap.size + 1 < w0_.heap.size := by omega
            have : b8u3 < w0_.heap.size := by omega
            have : b9u3 < w0_.heap.size := by omega
            have : b10u3 < w0_.heap.size := by omega
            simp only [DepsR, Region.binds, Nat.zero_add, Nat.reduceAdd, true_implies, Bool.false_eq_true, false_implies, and_true, true_and, BEq.rfl, reduceCtorEq] at hd_
            go_simp
            exact hK_.out _ _ _ (by first | rfl | (simp only [Act.put, List.setIfInBounds_toArray, List.set_cons_zero, List.set_cons_succ, hd_]; done) | (simp only [Act.put, List.setIfInBounds_toArray, List.set_cons_zero, List.set_cons_succ, hd_]; rfl)) (Below.refl _ _) rfl (fun h => by cases h)
          · intro w0_ hF_ hd_ Q_ K_ hK_
            have hc0_ := (bcell hF_).1
            have hf0_ := (bcell hF_).2
            have hz0_ := hF_.size; (try simp at hz0_)
            (try simp at hc0_ hf0_)
            have : w.heap.size < w0_.heap.size := by omega
            have : w.heap.size + 1 < w0_.heap.size := by omega
            have : b8u3 < w0_.heap.size := by omega
            have : b9u3 < w0_.heap.size := by omega
            have : b10u3 < w0_.heap.size := by omega
            simp only [DepsR, Region.binds, Nat.zero_add, Nat.reduceAdd, true_implies, Bool.false_eq_true, false_implies, and_true, true_and, BEq.rfl, reduceCtorEq] at hd_
            go_simp
            refine (H3.out _).mono ?_
            rintro e_ w1_ ⟨rfl, hb_⟩
            exact hK_.out _ _ _ (by first | rfl | (simp only [Act.put, List.setIfInBounds_toArray, List.set_cons_zero, List.set_cons_succ, hd_]; done) | (simp only [Act.put, List.setIfInBounds_toArray, List.set_cons_zero, List.set_cons_succ, hd_]; rfl)) hb_ rfl (fun h => by cases h)
          · intro w0_ hF_ hd_ Q_ K_ hK_
            have hc0_ := (bcell hF_).1
            have hf0_ := (bcell hF_).2
            have hz0_ := hF_.size; (try simp at hz0_)
            (try simp at hc0_ hf0_)
            have : w.heap.size < w0_.heap.size := by omega
            have : w.heap.size + 1 < w0_.heap.size := by omega
            have : b8u3 < w0_.heap.size := by omega
            have : b9u3 < w0_.heap.size := by omega
            have : b10u3 < w0_.heap.size := by omega
            simp only [DepsR, Region.binds, Nat.zero_add, Nat.reduceAdd, true_implies, Bool.false_eq_true, false_implies, and_true, true_and, BEq.rfl, reduceCtorEq] at hd_
            go_simp
            exact hK_.out _ _ _ (by first | rfl | (simp only [Act.put, List.setIfInBounds_toArray, List.set_cons_zero, List.set_cons_succ, hd_]; done) | (simp only [Act.put, List.setIfInBounds_toArray, List.set_cons_zero, List.set_cons_succ, hd_]; rfl)) (Below.refl _ _) rfl (fun h => by cases h)
          · intro w0_ hF_ hd_ Q_ K_ hK_
            have hc0_ := (bcell hF_).1
            have hf0_ := (bcell hF_).2
            have hz0_ := hF_.size; (try simp at hz0_)
            (try simp at hc0_ hf0_)
            have : w.heap.size < w0_.heap.size := by omega
            have : w.heap.size + 1 < w0_.heap.size := by omega
            have : b8u3 < w0_.heap.size := by omega
            have : b9u3 < w0_.heap.size := by omega
            have : b10u3 < w0_.heap.size := by omega
            simp only [DepsR, Region.binds, Nat.zero_add, Nat.reduceAdd, true_implies, Bool.false_eq_true, false_implies, and_true, true_and, BEq.rfl, reduceCtorEq] at hd_
            go_simp
            exact hK_.out _ _ _ (by first | rfl | (simp only [Act.put, List.setIfInBounds_toArray, List.set_cons_zero, List.set_cons_succ, hd_]; done) | (simp only [Act.put, List.setIfInBounds_toArray, List.set_cons_zero, List.set_cons_succ, hd_]; rfl)) (Below.refl _ _) rfl (fun h => by cases h)
          · intro w0_ hF_ hd_ Q_ K_ hK_
            have hc0_ := (bcell hF_).1
            have hf0_ := (bcell hF_).2
            have hz0_ := hF_.size; (try simp at hz0_)
            (try simp at hc0_ hf0_)
            have : w.heap.size < w0_.heap.size := by omega
            have : w.heap.size + 1 < w0_.heap.size := by omega
            have : b8u3 < w0_.heap.size := by omega
            have : b9u3 < w0_.heap.size := by omega
            have : b10u3 < w0_.heap.size := by omega
            simp only [DepsR, Region.binds, Nat.zero_add, Nat.reduceAdd, true_implies, Bool.false_eq_true, false_implies, and_true, true_and, BEq.rfl, reduceCtorEq] at hd_
            go_simp
            exact hK_.out _ _ _ (by first | rfl | (simp only [Act.put, List.setIfInBounds_toArray, List.set_cons_zero, List.set_cons_succ, hd_]; done) | (simp only [Act.put, List.setIfInBounds_toArray, List.set_cons_zero, List.set_cons_succ, hd_]; rfl)) (Below.refl _ _) rfl (fun h => by cases h)
          · intro w0_ hF_ hd_ Q_ K_ hK_
            have hc0_ := (bcell hF_).1
            have hf0_ := (bcell hF_).2
            have hz0_ := hF_.size; (try simp at hz0_)
            (try simp at hc0_ hf0_)
            have : w.heap.size < w0_.heap.size := by omega
            have : w.heap.size + 1 < w0_.heap.size := by omega
            have : b8u3 < w0_.heap.size := by omega
            have : b9u3 < w0_.heap.size := by omega
            have : b10u3 < w0_.heap.size := by omega
            simp only [DepsR, Region.binds, Nat.zero_add, Nat.reduceAdd, true_implies, Bool.false_eq_true, false_implies, and_true, true_and, BEq.rfl, reduceCtorEq] at hd_
            go_simp
            refine (H4.out _).mono ?_
            rintro e_ w1_ ⟨rfl, hb_⟩
            exact hK_.out _ _ _ (by first | rfl | (simp only [Act.put, List.setIfInBounds_toArray, List.set_cons_zero, List.set_cons_succ, hd_]; done) | (simp only [Act.put, List.setIfInBounds_toArray, List.set_cons_zero, List.set_cons_succ, hd_]; rfl)) hb_ rfl (fun h => by cases h)
          · intro w0_ hF_ hd_ Q_ K_ hK_
            have hc0_ := (bcell hF_).1
            have hf0_ := (bcell hF_).2
            have hz0_ := hF_.size; (try simp at hz0_)
            (try simp at hc0_ hf0_)
            have : w.heap.size < w0_.heap.size := by omega
            have : w.heap.size + 1 < w0_.heap.size := by omega
            have : b8u3 < w0_.heap.size := by omega
            have : b9u3 < w0_.heap.size := by omega
            have : b10u3 < w0_.heap.size := by omega
            simp only [DepsR, Region.binds, Nat.zero_add, Nat.reduceAdd, true_implies, Bool.false_eq_true, false_implies, and_true, true_and, BEq.rfl, reduceCtorEq] at hd_
            go_simp
            exact hK_.out _ _ _ (by first | rfl | (simp only [Act.put, List.setIfInBounds_toArray, List.set_cons_zero, List.set_cons_succ, hd_]; done) | (simp only [Act.put, List.setIfInBounds_toArray, List.set_cons_zero, List.set_cons_succ, hd_]; rfl)) (Below.refl _ _) rfl (fun h => by cases h)
          · intro w0_ hF_ hd_ Q_ K_ hK_
            have hc0_ := (bcell hF_).1
            have hf0_ := (bcell hF_).2
            have hz0_ := hF_.size; (try simp at hz0_)
            (try simp at hc0_ hf0_)
            have : w.heap.size < w0_.heap.size := by omega
            have : w.heap.size + 1 < w0_.heap.size := by omega
            have : b8u3 < w0_.heap.size := by omega
            have : b9u3 < w0_.heap.size := by omega
            have : b10u3 < w0_.heap.size := by omega
            simp only [DepsR, Region.binds, Nat.zero_add, Nat.reduceAdd, true_implies, Bool.false_eq_true, false_implies, and_true, true_and, BEq.rfl, reduceCtorEq] at hd_
            go_simp
            exact hK_.out _ _ _ (by first | rfl | (simp only [Act.put, List.setIfInBounds_toArray, List.set_cons_zero, List.set_cons_succ, hd_]; done) | (simp only [Act.put, List.setIfInBounds_toArray, List.set_cons_zero, List.set_cons_succ, hd_]; rfl)) (Below.refl _ _) rfl (fun h => by cases h)
          · intro w0_ hF_ hd_ Q_ K_ hK_
            have hc0_ := (bcell hF_).1
            have hf0_ := (bcell hF_).2
            have hz0_ := hF_.size; (try simp at hz0_)
            (try simp at hc0_ hf0_)
            have : w.heap.size < w0_.heap.size := by omega
            have : w.heap.size + 1 < w0_.heap.size := by omega
            have : b8u3 < w0_.heap.size := by omega
            have : b9u3 < w0_.heap.size := by omega
            have : b10u3 < w0_.heap.size := by omega
            simp only [DepsR, Region.binds, Nat.zero_add, Nat.reduceAdd, true_implies, Bool.false_eq_true, false_implies, and_true, true_and, BEq.rfl, reduceCtorEq] at hd_
            go_simp
            exact hK_.out _ _ _ (by first | rfl | (simp only [Act.put, List.setIfInBounds_toArray, List.set_cons_zero, List.set_cons_succ, hd_]; done) | (simp only [Act.put, List.setIfInBounds_toArray, List.set_cons_zero, List.set_cons_succ, hd_]; rfl)) (Below.refl _ _) rfl (fun h => by cases h)
          · intro w0_ hF_ hd_ Q_ K_ hK_
            have hc0_ := (bcell hF_).1
            have hf0_ := (bcell hF_).2
            have hz0_ := hF_.size; (try simp at hz0_)
            (try simp at hc0_ hf0_)
            have : w.heap.size < w0_.heap.size := by omega
            have : w.heap.size + 1 < w0_.heap.size := by omega
            have : b8u3 < w0_.heap.size := by omega
            have : b9u3 < w0_.heap.size := by omega
            have : b10u3 < w0_.heap.size := by omega
            simp only [DepsR, Region.binds, Nat.zero_add, Nat.reduceAdd, true_implies, Bool.false_eq_true, false_implies, and_true, true_and, BEq.rfl, reduceCtorEq] at hd_
            go_simp
            exact hK_.out _ _ _ (by first | rfl | (simp only [Act.put, List.setIfInBounds_toArray, List.set_cons_zero, List.set_cons_succ, hd_]; done) | (simp only [Act.put, List.setIfInBounds_toArray, List.set_cons_zero, List.set_cons_succ, hd_]; rfl)) (Below.refl _ _) rfl (fun h => by cases h)
          · intro w0_ hF_ hd_ Q_ K_ hK_
            have hc0_ := (bcell hF_).1
            have hf0_ := (bcell hF_).2
            have hz0_ := hF_.size; (try simp at hz0_)
            (try simp at hc0_ hf0_)
            have : w.heap.size < w0_.heap.size := by omega
            have : w.heap.size + 1 < w0_.heap.size := by omega
            have : b8u3 < w0_.heap.size := by omega
            have : b9u3 < w0_.heap.size := by omega
            have : b10u3 < w0_.heap.size := by omega
            simp only [DepsR, Region.binds, Nat.zero_add, Nat.reduceAdd, true_implies, Bool.false_eq_true, false_implies, and_true, true_and, BEq.rfl, reduceCtorEq] at hd_
            go_simp
            exact hK_.out _ _ _ (by first | rfl | (simp only [Act.put, List.setIfInBounds_toArray, List.set_cons_zero, List.set_cons_succ, hd_]; done) | (simp only [Act.put, List.setIfInBounds_toArray, List.set_cons_zero, List.set_cons_succ, hd_]; rfl)) (Below.refl _ _) rfl (fun h => by cases h)
          · intro w0_ hF_ hd_ Q_ K_ hK_
            have hc0_ := (bcell hF_).1
            have hf0_ := (bcell hF_).2
            have hz0_ := hF_.size; (try simp at hz0_)
            (try simp at hc0_ hf0_)
            have : w.heap.size < w0_.heap.size := by omega
            have : w.heap.size + 1 < w0_.heap.size := by omega
            have : b8u3 < w0_.heap.size := by omega
            have : b9u3 < w0_.heap.size := by omega
            have : b10u3 < w0_.heap.size := by omega
            simp only [DepsR, Region.binds, Nat.zero_add, Nat.reduceAdd, true_implies, Bool.false_eq_true, false_implies, and_true, true_and, BEq.rfl, reduceCtorEq] at hd_
            go_simp
            exact hK_.out _ _ _ (by first | rfl | (simp only [Act.put, List.setIfInBounds_toArray, List.set_cons_zero, List.set_cons_succ, hd_]; done) | (simp only [Act.put, List.setIfInBounds_toArray, List.set_cons_zero, List.set_cons_succ, hd_]; rfl)) (Below.refl _ _) rfl (fun h => by cases h)
          · intro w0_ hF_ hd_ Q_ K_ hK_
            have hc0_ := (bcell hF_).1
            have hf0_ := (bcell hF_).2
            have hz0_ := hF_.size; (try simp at hz0_)
            (try simp at hc0_ hf0_)
            have : w.heap.size < w0_.heap.size := by omega
            have : w.heap.size + 1 < w0_.heap.size := by omega
            have : b8u3 < w0_.heap.size := by omega
            have : b9u3 < w0_.heap.size := by omega
            have : b10u3 < w0_.heap.size := by omega
            simp only [DepsR, Region.binds, Nat.zero_add, Nat.reduceAdd, true_implies, Bool.false_eq_true, false_implies, and_true, true_and, BEq.rfl, reduceCtorEq] at hd_
            go_simp
            refine (H5.out _).mono ?_
            rintro e_ w1_ ⟨rfl, hb_⟩
            exact hK_.out _ _ _ (by first | rfl | (simp only [Act.put, List.setIfInBounds_toArray, List.set_cons_zero, List.set_cons_succ, hd_]; done) | (simp only [Act.put, List.setIfInBounds_toArray, List.set_cons_zero, List.set_cons_succ, hd_]; rfl)) hb_ rfl (fun h => by cases h)
          · intro w0_ hF_ hd_ Q_ K_ hK_
            have hc0_ := (bcell hF_).1
            have hf0_ := (bcell hF_).2
            have hz0_ := hF_.size; (try simp at hz0_)
            (try simp at hc0_ hf0_)
            have : w.heap.size < w0_.heap.size := by omega
            have : w.heap.size + 1 < w0_.heap.size := by omega
            have : b8u3 < w0_.heap.size := by omega
            have : b9u3 < w0_.heap.size := by omega
            have : b10u3 < w0_.heap.size := by omega
            simp only [DepsR, Region.binds, Nat.zero_add, Nat.reduceAdd, true_implies, Bool.false_eq_true, false_implies, and_true, true_and, BEq.rfl, reduceCtorEq] at hd_
            go_simp
            exact hK_.out _ _ _ (by first | rfl | (simp only [Act.put, List.setIfInBounds_toArray, List.set_cons_zero, List.set_cons_succ, hd_]; done) | (simp only [Act.put, List.setIfInBounds_toArray, List.set_cons_zero, List.set_cons_succ, hd_]; rfl)) (Below.refl _ _) rfl (fun h => by cases h)
          · intro w0_ hF_ hd_ Q_ K_ hK_
            have hc0_ := (bcell hF_).1
            have hf0_ := (bcell hF_).2
            have hz0_ := hF_.size; (try simp at hz0_)
            (try simp at hc0_ hf0_)
            have : w.heap.size < w0_.heap.size := by omega
            have : w.heap.size + 1 < w0_.heap.size := by omega
            have : b8u3 < w0_.heap.size := by omega
            have : b9u3 < w0_.heap.size := by omega
            have : b10u3 < w0_.heap.size := by omega
            simp only [DepsR, Region.binds, Nat.zero_add, Nat.reduceAdd, true_implies, Bool.false_eq_true, false_implies, and_true, true_and, BEq.rfl, reduceCtorEq] at hd_
            go_simp
            exact hK_.out _ _ _ (by first | rfl | (simp only [Act.put, List.setIfInBounds_toArray, List.set_cons_zero, List.set_cons_succ, hd_]; done) | (simp only [Act.put, List.setIfInBounds_toArray, List.set_cons_zero, List.set_cons_succ, hd_]; rfl)) (Below.refl _ _) rfl (fun h => by cases h)
          · intro w0_ hF_ hd_ Q_ K_ hK_
            have hc0_ := (bcell hF_).1
            have hf0_ := (bcell hF_).2
            have hz0_ := hF_.size; (try simp at hz0_)
            (try simp at hc0_ hf0_)
            have : w.heap.size < w0_.heap.size := by omega
            have : w.heap.size + 1 < w0_.heap.size := by omega
            have : b8u3 < w0_.heap.size := by omega
            have : b9u3 < w0_.heap.size := by omega
            have : b10u3 < w0_.heap.size := by omega
            simp only [DepsR, Region.binds, Nat.zero_add, Nat.reduceAdd, true_implies, Bool.false_eq_true, false_implies, and_true, true_and, BEq.rfl, reduceCtorEq] at hd_
            go_simp
            refine (H3.out _).mono ?_
            rintro e_ w1_ ⟨rfl, hb_⟩
            exact hK_.out _ _ _ (by first | rfl | (simp only [Act.put, List.setIfInBounds_toArray, List.set_cons_zero, List.set_cons_succ, hd_]; done) | (simp only [Act.put, List.setIfInBounds_toArray, List.set_cons_zero, List.set_cons_succ, hd_]; rfl)) hb_ rfl (fun h => by cases h)
          · intro w0_ hF_ hd_ Q_ K_ hK_
            have hc0_ := (bcell hF_).1
            have hf0_ := (bcell hF_).2
            have hz0_ := hF_.size; (try simp at hz0_)
            (try simp at hc0_ hf0_)
            have : w.heap.size < w0_.heap.size := by omega
            have : w.heap.size + 1 < w0_.heap.size := by omega
            have : b8u3 < w0_.heap.size := by omega
            have : b9u3 < w0_.heap.size := by omega
            have : b10u3 < w0_.heap.size := by omega
            simp only [DepsR, Region.binds, Nat.zero_add, Nat.reduceAdd, true_implies, Bool.false_eq_true, false_implies, and_true, true_and, BEq.rfl, reduceCtorEq] at hd_
            go_simp
            exact hK_.out _ _ _ (by first | rfl | (simp only [Act.put, List.setIfInBounds_toArray, List.set_cons_zero, List.set_cons_succ, hd_]; done) | (simp only [Act.put, List.setIfInBounds_toArray, List.set_cons_zero, List.set_cons_succ, hd_]; rfl)) (Below.refl _ _) rfl (fun h => by cases h)
          · intro w0_ hF_ hd_ Q_ K_ hK_
            have hc0_ := (bcell hF_).1
            have hf0_ := (bcell hF_).2
            have hz0_ := hF_.size; (try simp at hz0_)
            (try simp at hc0_ hf0_)
            have : w.heap.size < w0_.heap.size := by omega
            have : w.heap.size + 1 < w0_.heap.size := by omega
            have : b8u3 < w0_.heap.size := by omega
            have : b9u3 < w0_.heap.size := by omega
            have : b10u3 < w0_.heap.size := by omega
            simp only [DepsR, Region.binds, Nat.zero_add, Nat.reduceAdd, true_implies, Bool.false_eq_true, false_implies, and_true, true_and, BEq.rfl, reduceCtorEq] at hd_
            go_simp
            exact hK_.out _ _ _ (by first | rfl | (simp only [Act.put, List.setIfInBounds_toArray, List.set_cons_zero, List.set_cons_succ, hd_]; done) | (simp only [Act.put, List.setIfInBounds_toArray, List.set_cons_zero, List.set_cons_succ, hd_]; rfl)) (Below.refl _ _) rfl (fun h => by cases h)
          · intro w0_ hF_ hd_ Q_ K_ hK_
            have hc0_ := (bcell hF_).1
            have hf0_ := (bcell hF_).2
            have hz0_ := hF_.size; (try simp at hz0_)
            (try simp at hc0_ hf0_)
            have : w.heap.size < w0_.heap.size := by omega
            have : w.heap.size + 1 < w0_.heap.size := by omega
            have : b8u3 < w0_.heap.size := by omega
            have : b9u3 < w0_.heap.size := by omega
            have : b10u3 < w0_.heap.size := by omega
            simp only [DepsR, Region.binds, Nat.zero_add, Nat.reduceAdd, true_implies, Bool.false_eq_true, false_implies, and_true, true_and, BEq.rfl, reduceCtorEq] at hd_
            go_simp
            exact hK_.out _ _ _ (by first | rfl | (simp only [Act.put, List.setIfInBounds_toArray, List.set_cons_zero, List.set_cons_succ, hd_]; done) | (simp only [Act.put, List.setIfInBounds_toArray, List.set_cons_zero, List.set_cons_succ, hd_]; rfl)) (Below.refl _ _) rfl (fun h => by cases h)
          · intro w0_ hF_ hd_ Q_ K_ hK_
            have hc0_ := (bcell hF_).1
            have hf0_ := (bcell hF_).2
            have hz0_ := hF_.size; (try simp at hz0_)
            (try simp at hc0_ hf0_)
            have : w.heap.size < w0_.heap.size := by omega
            have : w.heap.size + 1 < w0_.heap.size := by omega
            have : b8u3 < w0_.heap.size := by omega
            have : b9u3 < w0_.heap.size := by omega
            have : b10u3 < w0_.heap.size := by omega
            simp only [DepsR, Region.binds, Nat.zero_add, Nat.reduceAdd, true_implies, Bool.false_eq_true, false_implies, and_true, true_and, BEq.rfl, reduceCtorEq] at hd_
            go_simp
            exact hK_.out _ _ _ (by first | rfl | (simp only [Act.put, List.setIfInBounds_toArray, List.set_cons_zero, List.set_cons_succ, hd_]; done) | (simp only [Act.put, List.setIfInBounds_toArray, List.set_cons_zero, List.set_cons_succ, hd_]; rfl)) (Below.refl _ _) rfl (fun h => by cases h)
          · intro w0_ hF_ hd_ Q_ K_ hK_
            have hc0_ := (bcell hF_).1
            have hf0_ := (bcell hF_).2
            have hz0_ := hF_.size; (try simp at hz0_)
            (try simp at hc0_ hf0_)
            have : w.heap.size < w0_.heap.size := by omega
            have : w.heap.size + 1 < w0_.heap.size := by omega
            have : b8u3 < w0_.heap.size := by omega
            have : b9u3 < w0_.heap.size := by omega
            have : b10u3 < w0_.heap.size := by omega
            simp only [DepsR, Region.binds, Nat.zero_add, Nat.reduceAdd, true_implies, Bool.false_eq_true, false_implies, and_true, true_and, BEq.rfl, reduceCtorEq] at hd_
            go_simp
            refine (N2.out _).mono ?_
            rintro e_ w1_ ⟨rfl, hb_⟩
            exact hK_.out _ _ _ (by first | rfl | (simp only [Act.put, List.setIfInBounds_toArray, List.set_cons_zero, List.set_cons_succ, hd_]; done) | (simp only [Act.put, List.setIfInBounds_toArray, List.set_cons_zero, List.set_cons_succ, hd_]; rfl)) hb_ rfl (fun h => by cases h)
          · intro w0_ hF_ hd_ Q_ K_ hK_
            have hc0_ := (bcell hF_).1
            have hf0_ := (bcell hF_).2
            have hz0_ := hF_.size; (try simp at hz0_)
            (try simp at hc0_ hf0_)
            have : w.heap.size < w0_.heap.size := by omega
            have : w.heap.size + 1 < w0_.heap.size := by omega
            have : b8u3 < w0_.heap.size := by omega
            have : b9u3 < w0_.heap.size := by omega
            have : b10u3 < w0_.heap.size := by omega
            simp only [DepsR, Region.binds, Nat.zero_add, Nat.reduceAdd, true_implies, Bool.false_eq_true, false_implies, and_true, true_and, BEq.rfl, reduceCtorEq] at hd_
            go_simp
            exact hK_.out _ _ _ (by first | rfl | (simp only [Act.put, List.setIfInBounds_toArray, List.set_cons_zero, List.set_cons_succ, hd_]; done) | (simp only [Act.put, List.setIfInBounds_toArray, List.set_cons_zero, List.set_cons_succ, hd_]; rfl)) (Below.refl _ _) rfl (fun h => by cases h)
          · intro w0_ hF_ hd_ Q_ K_ hK_
            have hc0_ := (bcell hF_).1
            have hf0_ := (bcell hF_).2
            have hz0_ := hF_.size; (try simp at hz0_)
            (try simp at hc0_ hf0_)
            have : w.heap.size < w0_.heap.size := by omega
            have : w.heap.size + 1 < w0_.heap.size := by omega
            have : b8u3 < w0_.heap.size := by omega
            have : b9u3 < w0_.heap.size := by omega
            have : b10u3 < w0_.heap.size := by omega
            simp only [DepsR, Region.binds, Nat.zero_add, Nat.reduceAdd, true_implies, Bool.false_eq_true, false_implies, and_true, true_and, BEq.rfl, reduceCtorEq] at hd_
            go_simp
            exact hK_.out _ _ _ (by first | rfl | (simp only [Act.put, List.setIfInBounds_toArray, List.set_cons_zero, List.set_cons_succ, hd_]; done) | (simp only [Act.put, List.setIfInBounds_toArray, List.set_cons_zero, List.set_cons_succ, hd_]; rfl)) (Below.refl _ _) rfl (fun h => by cases h)
          · intro w0_ hF_ hd_ Q_ K_ hK_
            have hc0_ := (bcell hF_).1
            have hf0_ := (bcell hF_).2
            have hz0_ := hF_.size; (try simp at hz0_)
            (try simp at hc0_ hf0_)
            have : w.heap.size < w0_.heap.size := by omega
            have : w.heap.size + 1 < w0_.heap.size := by omega
            have : b8u3 < w0_.heap.size := by omega
            have : b9u3 < w0_.heap.size := by omega
            have : b10u3 < w0_.heap.size := by omega
            simp only [DepsR, Region.binds, Nat.zero_add, Nat.reduceAdd, true_implies, Bool.false_eq_true, false_implies, and_true, true_and, BEq.rfl, reduceCtorEq] at hd_
            go_simp
            exact hK_.out _ _ _ (by first | rfl | (simp only [Act.put, List.setIfInBounds_toArray, List.set_cons_zero, List.set_cons_succ, hd_]; done) | (simp only [Act.put, List.setIfInBounds_toArray, List.set_cons_zero, List.set_cons_succ, hd_]; rfl)) (Below.refl _ _) rfl (fun h => by cases h)
        · intro vs u4 hBu4 hA_ hD_
          simp only [AllR, Nat.zero_add, Nat.reduceAdd, and_true] at hA_
          obtain ⟨r0_, r1_, r2_, r3_, r4_, r5_, r6_, r7_, r8_, r9_, r10_, r11_, r12_, r13_, r14_, r15_, r16_, r17_, r18_, r19_, r20_, r21_, r22_, r23_, r24_, r25_, r26_, r27_, r28_, r29_, r30_, r31_, r32_, r33_, r34_, r35_, r36_, r37_, r38_, r39_, r40_⟩ := hA_
          clear hD_
          simp only [putAll, Act.put, List.setIfInBounds_toArray, List.set_cons_zero, List.set_cons_succ, Nat.zero_add, Nat.reduceAdd, r0_, r1_, r2_, r3_, r4_, r5_, r6_, r7_, r8_, r9_, r10_, r11_, r12_, r13_, r14_, r15_, r16_, r17_, r18_, r19_, r20_, r21_, r22_, r23_, r24_, r25_, r26_, r27_, r28_, r29_, r30_, r31_, r32_, r33_, r34_, r35_, r36_, r37_, r38_, r39_, r40_]
          clear r0_ r1_ r2_ r3_ r4_ r5_ r6_ r7_ r8_ r9_ r10_ r11_ r12_ r13_ r14_ r15_ r16_ r17_ r18_ r19_ r20_ r21_ r22_ r23_ r24_ r25_ r26_ r27_ r28_ r29_ r30_ r31_ r32_ r33_ r34_ r35_ r36_ r37_ r38_ r39_ r40_
          obtain ⟨hcu4, hfu4⟩ := bcell hBu4; (try simp only [World.size_drew, World.cell?_drew, World.frozen?_drew] at hcu4 hfu4); have hzu4 := hBu4.size; (try simp at hzu4)
          have : w.heap.size < u4.heap.size := by omega
          have : w.heap.size + 1 < u4.heap.size := by omega
          have : b8u3 < u4.heap.size := by omega
          have : b9u3 < u4.heap.size := by omega
          have : b10u3 < u4.heap.size := by omega
          go_wp2_with fail
          go_meet
          case rel => exact ⟨rfl, hBu4⟩
    case rest =>
      obtain ⟨rfl, hB34⟩ := hcut
      have ra4 := ra3.on hB34
      have rn4 : Row u3 b10u3 25 (setA n) := l10
      have rn4 := rn4.on hB34
      have hB4 : Below w.heap.size w wc := hB3.trans (hB34.mono hs3)
      have hs4 := hB4.size
      clear hB34 ra3 hB3
      go_wp2
      go_loopw [14, 15] (fun t14 t15 wr => ∃ k : Nat, k ≤ 256 ∧ t15 = .int .i64 (k : Int) ∧ t14 = .int .i64 ((cntP p k : Nat) : Int) ∧ Row wr w.heap.size 25 (setA p) ∧ Row wr b10u3 25 (setA n) ∧ Below w.heap.size w wr) (fun _ t15 _ => 256 - (intOf t15).toNat)
      case atStart => exact ⟨0, by omega, rfl, rfl, ra4, rn4, hB4⟩
      case round =>
        obtain ⟨k, hk, rfl, rfl, r, rn, hBr⟩ := hrel
        by_cases hlt : k < 256
        · have HH := Lib.hid (HI.out k hlt)
          have hlt' : (k : Int) < 256 := by omega
          have w8 : IntKind.u8.wrap (k : Int) = (k : Int) := by rw [IntKind.wrap_u8]; omega
          have hK := Lib.hid (HK.out k)
          have hle := cntP_le p k
          have RR := Lib.hid (And.intro r (And.intro rn hBr))
          obtain ⟨j0, j1, j2, j3, f0, f1, f2, f3, zr⟩ := r.four
          clear f0 f1 f2 f3 r rn
          generalize cntP p k = m at *
          generalize hm' : cntP p (k + 1) = m' at *
          have wm : IntKind.i64.wrap ((m : Int) + 1) = (m : Int) + 1 := by rw [IntKind.wrap_i64]; omega
          generalize p k = b at *
          go_wp2_with fail
          refine (HH.out _).mono ?_; rintro e u6 ⟨rfl, hb6⟩; (try dsimp only)
          have R6 : Hid (Row u6 w.heap.size 25 (setA p) ∧ Row u6 b10u3 25 (setA n) ∧ Below w.heap.size w u6) := ⟨RR.out.1.on hb6, RR.out.2.1.on hb6, RR.out.2.2.trans (hb6.mono RR.out.2.2.size)⟩
          cases b
          all_goals
            go_wp2
            go_roundw
            case rel => exact ⟨k + 1, by omega, by go_num, by rw [hm', hK.out]; simp, R6.out.1, R6.out.2.1, R6.out.2.2⟩
            case measure => simp [intOf]; omega
        · have hk256 : k = 256 := by omega
          have hj1 : ¬ (k : Int) < 256 := by omega
          have hcn : cntP p k = n1 := by rw [hk256]; exact HN.out
          rw [hcn]
          clear hcn hk256 hk hlt
          obtain ⟨k0, k1, k2, k3, f0, f1, f2, f3, z0⟩ := r.four
          obtain ⟨m0, m1, m2, m3, g0, g1, g2, g3, y0⟩ := rn.four
          clear f0 f1 f2 f3 g0 g1 g2 g3
          have hsr := hBr.size
          have kx := (r.cell (c / 64)).trans (setA_get p (by omega : c / 64 < 4))
          rw [hx] at kx
          have e1 : ((c : Int).tdiv 64) = ((c / 64 : Nat) : Int) := rfl
          have e2 : ((c : Int).tmod 64) = ((d : Nat) : Int) := by rw [← hd]; rfl
          have e1' : IntKind.u8.wrap ((c : Int).tdiv 64) = ((c : Int).tdiv 64) := by rw [e1, IntKind.wrap_u8]; omega
          have wn : IntKind.i64.wrap ((n1 : Int) + (n2 : Int)) = 256 := by rw [IntKind.wrap_i64]; omega
          have hq4 : ((c / 64 : Nat) : Int) < 4 := by omega
          have hq0 : (0 : Int) ≤ ((c / 64 : Nat) : Int) := by omega
          have hd64 : d < 64 := by rw [← hd]; exact Nat.mod_lt _ (by decide)
          have wq : IntKind.u8.wrap ((c / 64 : Nat) : Int) = ((c / 64 : Nat) : Int) := by rw [IntKind.wrap_u8]; omega
          clear hx hd
          generalize c / 64 = qd at *
          go_upto_region 12 with fail
          refine wp_region_keep (t := fun j => j) (al := fun _ => false) (loud := fun _ => false)
            (R := fun j v u w' => match j with
              | 0 => v = setV p
              | 1 => v = .int .i64 (n1 : Int)
              | 2 => v = .int .i64 (n1 : Int)
              | 3 => v = .bool true
              | 4 => v = .bool true
              | 5 => v = setV p
              | 6 => v = .int .i64 (n1 : Int)
              | 7 => v = setV n
              | 8 => v = .int .i64 (n2 : Int)
              | 9 => v = .int .i64 256
              | 10 => v = .bool true
              | 11 => v = .bool true
              | 12 => v = .bool true
              | 13 => v = setV p
              | 14 => v = .int .u8 (c : Int)
              | 15 => v = .bool pc
              | 16 => v = .int .u8 (c : Int)
              | 17 => v = .int .u8 (qd : Int)
              | 18 => v = .pointer (some ⟨w.heap.size, qd, none⟩)
              | 19 => v = .int .u64 (x : Int)
              | 20 => v = .int .u8 (c : Int)
              | 21 => v = .int .u8 (d : Int)
              | 22 => v = .int .u64 ((x : Int) / 2 ^ d)
              | 23 => v = .int .u64 (bits BinOp.and IntKind.u64 ((x : Int) / 2 ^ d) 1)
              | 24 => v = .bool pc
              | 25 => v = .bool true
              | 26 => v = .bool true
              | 27 => v = .bool true
              | _ => True) (by kernel_rfl) (by kernel_rfl) (by kernel_rfl) ?_ ?_ ?_ ?_
          · intro j v u w1_ w2_ h_ hF_ hB_
            (try dsimp only at h_ ⊢)
            split at h_ <;> first | (with_reducible exact h_) | (with_reducible exact NewR.on h_ hB_) | (with_reducible exact HasR.on h_ hB_) | exact IsNum.on h_ hB_ | exact HasNum.on h_ hB_ | exact RHeld.on h_ hB_ | trivial | exact h_
          · intro j v u w1_ h1_ h_
            cases h1_
          · intro vs
            simp only [putAll, Act.put, List.setIfInBounds_toArray, List.set_cons_zero, List.set_cons_succ, Nat.zero_add, Nat.reduceAdd]
            refine ⟨?_, ?_, ?_, ?_, ?_, ?_, ?_, ?_, ?_, ?_, ?_, ?_, ?_, ?_, ?_, ?_, ?_, ?_, ?_, ?_, ?_, ?_, ?_, ?_, ?_, ?_, ?_, ?_, trivial⟩
            · intro w0_ hF_ hd_ Q_ K_ hK_
              have hc0_ := (bcell hF_).1
              have hf0_ := (bcell hF_).2
              have hz0_ := hF_.size; (try simp at hz0_)
              (try simp at hc0_ hf0_)
              have : w.heap.size < w0_.heap.size := by omega
              have : b10u3 < w0_.heap.size := by omega
              simp only [DepsR, Region.binds, Nat.zero_add, Nat.reduceAdd, true_implies, Bool.false_eq_true, false_implies, and_true, true_and, BEq.rfl, reduceCtorEq] at hd_
              go_simp
              exact hK_.out _ _ _ (by first | rfl | (simp only [Act.put, List.setIfInBounds_toArray, List.set_cons_zero, List.set_cons_succ, hd_]; done) | (simp only [Act.put, List.setIfInBounds_toArray, List.set_cons_zero, List.set_cons_succ, hd_]; rfl)) (Below.refl _ _) rfl (fun h => by cases h)
            · intro w0_ hF_ hd_ Q_ K_ hK_
              have hc0_ := (bcell hF_).1
              have hf0_ := (bcell hF_).2
              have hz0_ := hF_.size; (try simp at hz0_)
              (try simp at hc0_ hf0_)
              have : w.heap.size < w0_.heap.size := by omega
              have : b10u3 < w0_.heap.size := by omega
              simp only [DepsR, Region.binds, Nat.zero_add, Nat.reduceAdd, true_implies, Bool.false_eq_true, false_implies, and_true, true_and, BEq.rfl, reduceCtorEq] at hd_
              go_simp
              refine (C1.out _).mono ?_
              rintro e_ w1_ ⟨rfl, hb_⟩
              exact hK_.out _ _ _ (by first | rfl | (simp only [Act.put, List.setIfInBounds_toArray, List.set_cons_zero, List.set_cons_succ, hd_]; done) | (simp only [Act.put, List.setIfInBounds_toArray, List.set_cons_zero, List.set_cons_succ, hd_]; rfl)) hb_ rfl (fun h => by cases h)
            · intro w0_ hF_ hd_ Q_ K_ hK_
              have hc0_ := (bcell hF_).1
              have hf0_ := (bcell hF_).2
              have hz0_ := hF_.size; (try simp at hz0_)
              (try simp at hc0_ hf0_)
              have : w.heap.size < w0_.heap.size := by omega
              have : b10u3 < w0_.heap.size := by omega
              simp only [DepsR, Region.binds, Nat.zero_add, Nat.reduceAdd, true_implies, Bool.false_eq_true, false_implies, and_true, true_and, BEq.rfl, reduceCtorEq] at hd_
              go_simp
              exact hK_.out _ _ _ (by first | rfl | (simp only [Act.put, List.setIfInBounds_toArray, List.set_cons_zero, List.set_cons_succ, hd_]; done) | (simp only [Act.put, List.setIfInBounds_toArray, List.set_cons_zero, List.set_cons_succ, hd_]; rfl)) (Below.refl _ _) rfl (fun h => by cases h)
            · intro w0_ hF_ hd_ Q_ K_ hK_
              have hc0_ := (bcell hF_).1
              have hf0_ := (bcell hF_).2
              have hz0_ := hF_.size; (try simp at hz0_)
              (try simp at hc0_ hf0_)
              have : w.heap.size < w0_.heap.size := by omega
              have : b10u3 < w0_.heap.size := by omega
              simp only [DepsR, Region.binds, Nat.zero_add, Nat.reduceAdd, true_implies, Bool.false_eq_true, false_implies, and_true, true_and, BEq.rfl, reduceCtorEq] at hd_
              go_simp
              exact hK_.out _ _ _ (by first | rfl | (simp only [Act.put, List.setIfInBounds_toArray, List.set_cons_zero, List.set_cons_succ, hd_]; done) | (simp only [Act.put, List.setIfInBounds_toArray, List.set_cons_zero, List.set_cons_succ, hd_]; rfl)) (Below.refl _ _) rfl (fun h => by cases h)
            · intro w0_ hF_ hd_ Q_ K_ hK_
              have hc0_ := (bcell hF_).1
              have hf0_ := (bcell hF_).2
              have hz0_ := hF_.size; (try simp at hz0_)
              (try simp at hc0_ hf0_)
              have : w.heap.size < w0_.heap.size := by omega
              have : b10u3 < w0_.heap.size := by omega
              simp only [DepsR, Region.binds, Nat.zero_add, Nat.reduceAdd, true_implies, Bool.false_eq_true, false_implies, and_true, true_and, BEq.rfl, reduceCtorEq] at hd_
              go_simp
              exact hK_.out _ _ _ (by first | rfl | (simp only [Act.put, List.setIfInBounds_toArray, List.set_cons_zero, List.set_cons_succ, hd_]; done) | (simp only [Act.put, List.setIfInBounds_toArray, List.set_cons_zero, List.set_cons_succ, hd_]; rfl)) (Below.refl _ _) rfl (fun h => by cases h)
            · intro w0_ hF_ hd_ Q_ K_ hK_
              have hc0_ := (bcell hF_).1
              have hf0_ := (bcell hF_).2
              have hz0_ := hF_.size; (try simp at hz0_)
              (try simp at hc0_ hf0_)
              have : w.heap.size < w0_.heap.size := by omega
              have : b10u3 < w0_.heap.size := by omega
              simp only [DepsR, Region.binds, Nat.zero_add, Nat.reduceAdd, true_implies, Bool.false_eq_true, false_implies, and_true, true_and, BEq.rfl, reduceCtorEq] at hd_
              go_simp
              exact hK_.out _ _ _ (by first | rfl | (simp only [Act.put, List.setIfInBounds_toArray, List.set_cons_zero, List.set_cons_succ, hd_]; done) | (simp only [Act.put, List.setIfInBounds_toArray, List.set_cons_zero, List.set_cons_succ, hd_]; rfl)) (Below.refl _ _) rfl (fun h => by cases h)
            · intro w0_ hF_ hd_ Q_ K_ hK_
              have hc0_ := (bcell hF_).1
              have hf0_ := (bcell hF_).2
              have hz0_ := hF_.size; (try simp at hz0_)
              (try simp at hc0_ hf0_)
              have : w.heap.size < w0_.heap.size := by omega
              have : b10u3 < w0_.heap.size := by omega
              simp only [DepsR, Region.binds, Nat.zero_add, Nat.reduceAdd, true_implies, Bool.false_eq_true, false_implies, and_true, true_and, BEq.rfl, reduceCtorEq] at hd_
              go_simp
              refine (C1.out _).mono ?_
              rintro e_ w1_ ⟨rfl, hb_⟩
              exact hK_.out _ _ _ (by first | rfl | (simp only [Act.put, List.setIfInBounds_toArray, List.set_cons_zero, List.set_cons_succ, hd_]; done) | (simp only [Act.put, List.setIfInBounds_toArray, List.set_cons_zero, List.set_cons_succ, hd_]; rfl)) hb_ rfl (fun h => by cases h)
            · intro w0_ hF_ hd_ Q_ K_ hK_
              have hc0_ := (bcell hF_).1
              have hf0_ := (bcell hF_).2
              have hz0_ := hF_.size; (try simp at hz0_)
              (try simp at hc0_ hf0_)
              have : w.heap.size < w0_.heap.size := by omega
              have : b10u3 < w0_.heap.size := by omega
              simp only [DepsR, Region.binds, Nat.zero_add, Nat.reduceAdd, true_implies, Bool.false_eq_true, false_implies, and_true, true_and, BEq.rfl, reduceCtorEq] at hd_
              go_simp
              exact hK_.out _ _ _ (by first | rfl | (simp only [Act.put, List.setIfInBounds_toArray, List.set_cons_zero, List.set_cons_succ, hd_]; done) | (simp only [Act.put, List.setIfInBounds_toArray, List.set_cons_zero, List.set_cons_succ, hd_]; rfl)) (Below.refl _ _) rfl (fun h => by cases h)
            · intro w0_ hF_ hd_ Q_ K_ hK_
              have hc0_ := (bcell hF_).1
              have hf0_ := (bcell hF_).2
              have hz0_ := hF_.size; (try simp at hz0_)
              (try simp at hc0_ hf0_)
              have : w.heap.size < w0_.heap.size := by omega
              have : b10u3 < w0_.heap.size := by omega
              simp only [DepsR, Region.binds, Nat.zero_add, Nat.reduceAdd, true_implies, Bool.false_eq_true, false_implies, and_true, true_and, BEq.rfl, reduceCtorEq] at hd_
              go_simp
              refine (C2.out _).mono ?_
              rintro e_ w1_ ⟨rfl, hb_⟩
              exact hK_.out _ _ _ (by first | rfl | (simp only [Act.put, List.setIfInBounds_toArray, List.set_cons_zero, List.set_cons_succ, hd_]; done) | (simp only [Act.put, List.setIfInBounds_toArray, List.set_cons_zero, List.set_cons_succ, hd_]; rfl)) hb_ rfl (fun h => by cases h)
            · intro w0_ hF_ hd_ Q_ K_ hK_
              have hc0_ := (bcell hF_).1
              have hf0_ := (bcell hF_).2
              have hz0_ := hF_.size; (try simp at hz0_)
              (try simp at hc0_ hf0_)
              have : w.heap.size < w0_.heap.size := by omega
              have : b10u3 < w0_.heap.size := by omega
              simp only [DepsR, Region.binds, Nat.zero_add, Nat.reduceAdd, true_implies, Bool.false_eq_true, false_implies, and_true, true_and, BEq.rfl, reduceCtorEq] at hd_
              go_simp
              exact hK_.out _ _ _ (by first | rfl | (simp only [Act.put, List.setIfInBounds_toArray, List.set_cons_zero, List.set_cons_succ, hd_]; done) | (simp only [Act.put, List.setIfInBounds_toArray, List.set_cons_zero, List.set_cons_succ, hd_]; rfl)) (Below.refl _ _) rfl (fun h => by cases h)
            · intro w0_ hF_ hd_ Q_ K_ hK_
              have hc0_ := (bcell hF_).1
              have hf0_ := (bcell hF_).2
              have hz0_ := hF_.size; (try simp at hz0_)
              (try simp at hc0_ hf0_)
              have : w.heap.size < w0_.heap.size := by omega
              have : b10u3 < w0_.heap.size := by omega
              simp only [DepsR, Region.binds, Nat.zero_add, Nat.reduceAdd, true_implies, Bool.false_eq_true, false_implies, and_true, true_and, BEq.rfl, reduceCtorEq] at hd_
              go_simp
              exact hK_.out _ _ _ (by first | rfl | (simp only [Act.put, List.setIfInBounds_toArray, List.set_cons_zero, List.set_cons_succ, hd_]; done) | (simp only [Act.put, List.setIfInBounds_toArray, List.set_cons_zero, List.set_cons_succ, hd_]; rfl)) (Below.refl _ _) rfl (fun h => by cases h)
            · intro w0_ hF_ hd_ Q_ K_ hK_
              have hc0_ := (bcell hF_).1
              have hf0_ := (bcell hF_).2
              have hz0_ := hF_.size; (try simp at hz0_)
              (try simp at hc0_ hf0_)
              have : w.heap.size < w0_.heap.size := by omega
              have : b10u3 < w0_.heap.size := by omega
              simp only [DepsR, Region.binds, Nat.zero_add, Nat.reduceAdd, true_implies, Bool.false_eq_true, false_implies, and_true, true_and, BEq.rfl, reduceCtorEq] at hd_
              go_simp
              exact hK_.out _ _ _ (by first | rfl | (simp only [Act.put, List.setIfInBounds_toArray, List.set_cons_zero, List.set_cons_succ, hd_]; done) | (simp only [Act.put, List.setIfInBounds_toArray, List.set_cons_zero, List.set_cons_succ, hd_]; rfl)) (Below.refl _ _) rfl (fun h => by cases h)
            · intro w0_ hF_ hd_ Q_ K_ hK_
              have hc0_ := (bcell hF_).1
              have hf0_ := (bcell hF_).2
              have hz0_ := hF_.size; (try simp at hz0_)
              (try simp at hc0_ hf0_)
              have : w.heap.size < w0_.heap.size := by omega
              have : b10u3 < w0_.heap.size := by omega
              simp only [DepsR, Region.binds, Nat.zero_add, Nat.reduceAdd, true_implies, Bool.false_eq_true, false_implies, and_true, true_and, BEq.rfl, reduceCtorEq] at hd_
              go_simp
              exact hK_.out _ _ _ (by first | rfl | (simp only [Act.put, List.setIfInBounds_toArray, List.set_cons_zero, List.set_cons_succ, hd_]; done) | (simp only [Act.put, List.setIfInBounds_toArray, List.set_cons_zero, List.set_cons_succ, hd_]; rfl)) (Below.refl _ _) rfl (fun h => by cases h)
            · intro w0_ hF_ hd_ Q_ K_ hK_
              have hc0_ := (bcell hF_).1
              have hf0_ := (bcell hF_).2
              have hz0_ := hF_.size; (try simp at hz0_)
              (try simp at hc0_ hf0_)
              have : w.heap.size < w0_.heap.size := by omega
              have : b10u3 < w0_.heap.size := by omega
              simp only [DepsR, Region.binds, Nat.zero_add, Nat.reduceAdd, true_implies, Bool.false_eq_true, false_implies, and_true, true_and, BEq.rfl, reduceCtorEq] at hd_
              go_simp
              exact hK_.out _ _ _ (by first | rfl | (simp only [Act.put, List.setIfInBounds_toArray, List.set_cons_zero, List.set_cons_succ, hd_]; done) | (simp only [Act.put, List.setIfInBounds_toArray, List.set_cons_zero, List.set_cons_succ, hd_]; rfl)) (Below.refl _ _) rfl (fun h => by cases h)
            · intro w0_ hF_ hd_ Q_ K_ hK_
              have hc0_ := (bcell hF_).1
              have hf0_ := (bcell hF_).2
              have hz0_ := hF_.size; (try simp at hz0_)
              (try simp at hc0_ hf0_)
              have : w.heap.size < w0_.heap.size := by omega
              have : b10u3 < w0_.heap.size := by omega
              simp only [DepsR, Region.binds, Nat.zero_add, Nat.reduceAdd, true_implies, Bool.false_eq_true, false_implies, and_true, true_and, BEq.rfl, reduceCtorEq] at hd_
              go_simp
              exact hK_.out _ _ _ (by first | rfl | (simp only [Act.put, List.setIfInBounds_toArray, List.set_cons_zero, List.set_cons_succ, hd_]; done) | (simp only [Act.put, List.setIfInBounds_toArray, List.set_cons_zero, List.set_cons_succ, hd_]; rfl)) (Below.refl _ _) rfl (fun h => by cases h)
            · intro w0_ hF_ hd_ Q_ K_ hK_
              have hc0_ := (bcell hF_).1
              have hf0_ := (bcell hF_).2
              have hz0_ := hF_.size; (try simp at hz0_)
              (try simp at hc0_ hf0_)
              have : w.heap.size < w0_.heap.size := by omega
              have : b10u3 < w0_.heap.size := by omega
              simp only [DepsR, Region.binds, Nat.zero_add, Nat.reduceAdd, true_implies, Bool.false_eq_true, false_implies, and_true, true_and, BEq.rfl, reduceCtorEq] at hd_
              go_simp
              refine (H3.out _).mono ?_
              rintro e_ w1_ ⟨rfl, hb_⟩
              exact hK_.out _ _ _ (by first | rfl | (simp only [Act.put, List.setIfInBounds_toArray, List.set_cons_zero, List.set_cons_succ, hd_]; done) | (simp only [Act.put, List.setIfInBounds_toArray, List.set_cons_zero, List.set_cons_succ, hd_]; rfl)) hb_ rfl (fun h => by cases h)
            · intro w0_ hF_ hd_ Q_ K_ hK_
              have hc0_ := (bcell hF_).1
              have hf0_ := (bcell hF_).2
              have hz0_ := hF_.size; (try simp at hz0_)
              (try simp at hc0_ hf0_)
              have : w.heap.size < w0_.heap.size := by omega
              have : b10u3 < w0_.heap.size := by omega
              simp only [DepsR, Region.binds, Nat.zero_add, Nat.reduceAdd, true_implies, Bool.false_eq_true, false_implies, and_true, true_and, BEq.rfl, reduceCtorEq] at hd_
              go_simp
              exact hK_.out _ _ _ (by first | rfl | (simp only [Act.put, List.setIfInBounds_toArray, List.set_cons_zero, List.set_cons_succ, hd_]; done) | (simp only [Act.put, List.setIfInBounds_toArray, List.set_cons_zero, List.set_cons_succ, hd_]; rfl)) (Below.refl _ _) rfl (fun h => by cases h)
            · intro w0_ hF_ hd_ Q_ K_ hK_
              have hc0_ := (bcell hF_).1
              have hf0_ := (bcell hF_).2
              have hz0_ := hF_.size; (try simp at hz0_)
              (try simp at hc0_ hf0_)
              have : w.heap.size < w0_.heap.size := by omega
              have : b10u3 < w0_.heap.size := by omega
              simp only [DepsR, Region.binds, Nat.zero_add, Nat.reduceAdd, true_implies, Bool.false_eq_true, false_implies, and_true, true_and, BEq.rfl, reduceCtorEq] at hd_
              go_simp
              exact hK_.out _ _ _ (by first | rfl | (simp only [Act.put, List.setIfInBounds_toArray, List.set_cons_zero, List.set_cons_succ, hd_]; done) | (simp only [Act.put, List.setIfInBounds_toArray, List.set_cons_zero, List.set_cons_succ, hd_]; rfl)) (Below.refl _ _) rfl (fun h => by cases h)
            · intro w0_ hF_ hd_ Q_ K_ hK_
              have hc0_ := (bcell hF_).1
              have hf0_ := (bcell hF_).2
              have hz0_ := hF_.size; (try simp at hz0_)
              (try simp at hc0_ hf0_)
              have : w.heap.size < w0_.heap.size := by omega
              have : b10u3 < w0_.heap.size := by omega
              simp only [DepsR, Region.binds, Nat.zero_add, Nat.reduceAdd, true_implies, Bool.false_eq_true, false_implies, and_true, true_and, BEq.rfl, reduceCtorEq] at hd_
              go_simp
              exact hK_.out _ _ _ (by first | rfl | (simp only [Act.put, List.setIfInBounds_toArray, List.set_cons_zero, List.set_cons_succ, hd_]; done) | (simp only [Act.put, List.setIfInBounds_toArray, List.set_cons_zero, List.set_cons_succ, hd_]; rfl)) (Below.refl _ _) rfl (fun h => by cases h)
            · intro w0_ hF_ hd_ Q_ K_ hK_
              have hc0_ := (bcell hF_).1
              have hf0_ := (bcell hF_).2
              have hz0_ := hF_.size; (try simp at hz0_)
              (try simp at hc0_ hf0_)
              have : w.heap.size < w0_.heap.size := by omega
              have : b10u3 < w0_.heap.size := by omega
              simp only [DepsR, Region.binds, Nat.zero_add, Nat.reduceAdd, true_implies, Bool.false_eq_true, false_implies, and_true, true_and, BEq.rfl, reduceCtorEq] at hd_
              go_simp
              exact hK_.out _ _ _ (by first | rfl | (simp only [Act.put, List.setIfInBounds_toArray, List.set_cons_zero, List.set_cons_succ, hd_]; done) | (simp only [Act.put, List.setIfInBounds_toArray, List.set_cons_zero, List.set_cons_succ, hd_]; rfl)) (Below.refl _ _) rfl (fun h => by cases h)
            · intro w0_ hF_ hd_ Q_ K_ hK_
              have hc0_ := (bcell hF_).1
              have hf0_ := (bcell hF_).2
              have hz0_ := hF_.size; (try simp at hz0_)
              (try simp at hc0_ hf0_)
              have : w.heap.size < w0_.heap.size := by omega
              have : b10u3 < w0_.heap.size := by omega
              simp only [DepsR, Region.binds, Nat.zero_add, Nat.reduceAdd, true_implies, Bool.false_eq_true, false_implies, and_true, true_and, BEq.rfl, reduceCtorEq] at hd_
              go_simp
              exact hK_.out _ _ _ (by first | rfl | (simp only [Act.put, List.setIfInBounds_toArray, List.set_cons_zero, List.set_cons_succ, hd_]; done) | (simp only [Act.put, List.setIfInBounds_toArray, List.set_cons_zero, List.set_cons_succ, hd_]; rfl)) (Below.refl _ _) rfl (fun h => by cases h)
            · intro w0_ hF_ hd_ Q_ K_ hK_
              have hc0_ := (bcell hF_).1
              have hf0_ := (bcell hF_).2
              have hz0_ := hF_.size; (try simp at hz0_)
              (try simp at hc0_ hf0_)
              have : w.heap.size < w0_.heap.size := by omega
              have : b10u3 < w0_.heap.size := by omega
              simp only [DepsR, Region.binds, Nat.zero_add, Nat.reduceAdd, true_implies, Bool.false_eq_true, false_implies, and_true, true_and, BEq.rfl, reduceCtorEq] at hd_
              go_simp
              exact hK_.out _ _ _ (by first | rfl | (simp only [Act.put, List.setIfInBounds_toArray, List.set_cons_zero, List.set_cons_succ, hd_]; done) | (simp only [Act.put, List.setIfInBounds_toArray, List.set_cons_zero, List.set_cons_succ, hd_]; rfl)) (Below.refl _ _) rfl (fun h => by cases h)
            · intro w0_ hF_ hd_ Q_ K_ hK_
              have hc0_ := (bcell hF_).1
              have hf0_ := (bcell hF_).2
              have hz0_ := hF_.size; (try simp at hz0_)
              (try simp at hc0_ hf0_)
              have : w.heap.size < w0_.heap.size := by omega
              have : b10u3 < w0_.heap.size := by omega
              simp only [DepsR, Region.binds, Nat.zero_add, Nat.reduceAdd, true_implies, Bool.false_eq_true, false_implies, and_true, true_and, BEq.rfl, reduceCtorEq] at hd_
              go_simp
              exact hK_.out _ _ _ (by first | rfl | (simp only [Act.put, List.setIfInBounds_toArray, List.set_cons_zero, List.set_cons_succ, hd_]; done) | (simp only [Act.put, List.setIfInBounds_toArray, List.set_cons_zero, List.set_cons_succ, hd_]; rfl)) (Below.refl _ _) rfl (fun h => by cases h)
            · intro w0_ hF_ hd_ Q_ K_ hK_
              have hc0_ := (bcell hF_).1
              have hf0_ := (bcell hF_).2
              have hz0_ := hF_.size; (try simp at hz0_)
              (try simp at hc0_ hf0_)
              have : w.heap.size < w0_.heap.size := by omega
              have : b10u3 < w0_.heap.size := by omega
              simp only [DepsR, Region.binds, Nat.zero_add, Nat.reduceAdd, true_implies, Bool.false_eq_true, false_implies, and_true, true_and, BEq.rfl, reduceCtorEq] at hd_
              go_simp
              exact hK_.out _ _ _ (by first | rfl | (simp only [Act.put, List.setIfInBounds_toArray, List.set_cons_zero, List.set_cons_succ, hd_]; done) | (simp only [Act.put, List.setIfInBounds_toArray, List.set_cons_zero, List.set_cons_succ, hd_]; rfl)) (Below.refl _ _) rfl (fun h => by cases h)
            · intro w0_ hF_ hd_ Q_ K_ hK_
              have hc0_ := (bcell hF_).1
              have hf0_ := (bcell hF_).2
              have hz0_ := hF_.size; (try simp at hz0_)
              (try simp at hc0_ hf0_)
              have : w.heap.size < w0_.heap.size := by omega
              have : b10u3 < w0_.heap.size := by omega
              simp only [DepsR, Region.binds, Nat.zero_add, Nat.reduceAdd, true_implies, Bool.false_eq_true, false_implies, and_true, true_and, BEq.rfl, reduceCtorEq] at hd_
              go_simp
              exact hK_.out _ _ _ (by first | rfl | (simp only [Act.put, List.setIfInBounds_toArray, List.set_cons_zero, List.set_cons_succ, hd_]; done) | (simp only [Act.put, List.setIfInBounds_toArray, List.set_cons_zero, List.set_cons_succ, hd_]; rfl)) (Below.refl _ _) rfl (fun h => by cases h)
            · intro w0_ hF_ hd_ Q_ K_ hK_
              have hc0_ := (bcell hF_).1
              have hf0_ := (bcell hF_).2
              have hz0_ := hF_.size; (try simp at hz0_)
              (try simp at hc0_ hf0_)
              have : w.heap.size < w0_.heap.size := by omega
              have : b10u3 < w0_.heap.size := by omega
              simp only [DepsR, Region.binds, Nat.zero_add, Nat.reduceAdd, true_implies, Bool.false_eq_true, false_implies, and_true, true_and, BEq.rfl, reduceCtorEq] at hd_
              go_simp
              exact hK_.out _ _ _ (by first | rfl | (simp only [Act.put, List.setIfInBounds_toArray, List.set_cons_zero, List.set_cons_succ, hd_]; done) | (simp only [Act.put, List.setIfInBounds_toArray, List.set_cons_zero, List.set_cons_succ, hd_]; rfl)) (Below.refl _ _) rfl (fun h => by cases h)
            · intro w0_ hF_ hd_ Q_ K_ hK_
              have hc0_ := (bcell hF_).1
              have hf0_ := (bcell hF_).2
              have hz0_ := hF_.size; (try simp at hz0_)
              (try simp at hc0_ hf0_)
              have : w.heap.size < w0_.heap.size := by omega
              have : b10u3 < w0_.heap.size := by omega
              simp only [DepsR, Region.binds, Nat.zero_add, Nat.reduceAdd, true_implies, Bool.false_eq_true, false_implies, and_true, true_and, BEq.rfl, reduceCtorEq] at hd_
              go_simp
              exact hK_.out _ _ _ (by first | rfl | (simp only [Act.put, List.setIfInBounds_toArray, List.set_cons_zero, List.set_cons_succ, hd_]; done) | (simp only [Act.put, List.setIfInBounds_toArray, List.set_cons_zero, List.set_cons_succ, hd_]; rfl)) (Below.refl _ _) rfl (fun h => by cases h)
            · intro w0_ hF_ hd_ Q_ K_ hK_
              have hc0_ := (bcell hF_).1
              have hf0_ := (bcell hF_).2
              have hz0_ := hF_.size; (try simp at hz0_)
              (try simp at hc0_ hf0_)
              have : w.heap.size < w0_.heap.size := by omega
              have : b10u3 < w0_.heap.size := by omega
              simp only [DepsR, Region.binds, Nat.zero_add, Nat.reduceAdd, true_implies, Bool.false_eq_true, false_implies, and_true, true_and, BEq.rfl, reduceCtorEq] at hd_
              go_simp
              exact hK_.out _ _ _ (by first | rfl | (simp only [Act.put, List.setIfInBounds_toArray, List.set_cons_zero, List.set_cons_succ, hd_]; done) | (simp only [Act.put, List.setIfInBounds_toArray, List.set_cons_zero, List.set_cons_succ, hd_]; rfl)) (Below.refl _ _) rfl (fun h => by cases h)
          · intro vs u9 hBu9 hA_ hD_
            simp only [AllR, Nat.zero_add, Nat.reduceAdd, and_true] at hA_
            obtain ⟨r0_, r1_, r2_, r3_, r4_, r5_, r6_, r7_, r8_, r9_, r10_, r11_, r12_, r13_, r14_, r15_, r16_, r17_, r18_, r19_, r20_, r21_, r22_, r23_, r24_, r25_, r26_, r27_⟩ := hA_
            clear hD_
            simp only [putAll, Act.put, List.setIfInBounds_toArray, List.set_cons_zero, List.set_cons_succ, Nat.zero_add, Nat.reduceAdd, r0_, r1_, r2_, r3_, r4_, r5_, r6_, r7_, r8_, r9_, r10_, r11_, r12_, r13_, r14_, r15_, r16_, r17_, r18_, r19_, r20_, r21_, r22_, r23_, r24_, r25_, r26_, r27_]
            clear r0_ r1_ r2_ r3_ r4_ r5_ r6_ r7_ r8_ r9_ r10_ r11_ r12_ r13_ r14_ r15_ r16_ r17_ r18_ r19_ r20_ r21_ r22_ r23_ r24_ r25_ r26_ r27_
            obtain ⟨hcu9, hfu9⟩ := bcell hBu9; (try simp only [World.size_drew, World.cell?_drew, World.frozen?_drew] at hcu9 hfu9); have hzu9 := hBu9.size; (try simp at hzu9)
            have : w.heap.size < u9.heap.size := by omega
            have : b10u3 < u9.heap.size := by omega
            go_wp2
            go_ret
            exact ⟨rfl, hBr.trans (hBu9.mono hBr.size)⟩
end Go.Proofs.Ytgigapmoooaaoaa
