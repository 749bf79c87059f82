/- The walk of CharsetLaws. -/
import Derived.Test.YtgigapmoooaaoaaSetO
namespace Go.Proofs.Ytgigapmoooaaoaa
set_option linter.unusedSimpArgs false
set_option linter.unusedVariables false
set_option linter.unnecessarySimpa false
open Go.RowKit

set_option maxRecDepth 100000 in
set_option maxHeartbeats 16000000 in
theorem laws_tt (p q np nq o1 bo o2 r p2 o3 o4 : Nat → Bool) (c n1 n2 n3 n4 s : Nat) (w : World) (hM : HM w)
    (HA : Hid (∀ W, HM W → Calls Try.prog 8 #[] W fun e w' => e = .returned (.bool true) ∧ Below W.heap.size W w'))
    (N1 : Hid (∀ W, Calls Try.prog 16 #[setV p] W fun e w' => e = .returned (setV np) ∧ Below W.heap.size W w'))
    (N2 : Hid (∀ W, Calls Try.prog 16 #[setV q] W fun e w' => e = .returned (setV nq) ∧ Below W.heap.size W w'))
    (O1 : Hid (∀ W, Calls Try.prog 15 #[setV np, setV nq] W fun e w' => e = .returned (setV o1) ∧ Below W.heap.size W w'))
    (N3 : Hid (∀ W, Calls Try.prog 16 #[setV o1] W fun e w' => e = .returned (setV bo) ∧ Below W.heap.size W w'))
    (H1 : Hid (∀ W, Calls Try.prog 13 #[setV bo, .int .u8 (c : Int)] W fun e w' => e = .returned (.bool true) ∧ Below W.heap.size W w'))
    (H2 : Hid (∀ W, Calls Try.prog 13 #[setV p, .int .u8 (c : Int)] W fun e w' => e = .returned (.bool true) ∧ Below W.heap.size W w'))
    (H3 : Hid (∀ W, Calls Try.prog 13 #[setV q, .int .u8 (c : Int)] W fun e w' => e = .returned (.bool true) ∧ Below W.heap.size W w'))
    (O2 : Hid (∀ W, Calls Try.prog 15 #[setV p, setV np] W fun e w' => e = .returned (setV o2) ∧ Below W.heap.size W w'))
    (R1 : Hid (∀ W, Calls Try.prog 14 #[.int .u8 0, .int .u8 255] W fun e w' => e = .returned (setV r) ∧ Below W.heap.size W w'))
    (O3 : Hid (∀ W, Calls Try.prog 15 #[setV p, setV p] W fun e w' => e = .returned (setV p2) ∧ Below W.heap.size W w'))
    (O4 : Hid (∀ W, Calls Try.prog 15 #[setV p, setV q] W fun e w' => e = .returned (setV o3) ∧ Below W.heap.size W w'))
    (O5 : Hid (∀ W, Calls Try.prog 15 #[setV q, setV p] W fun e w' => e = .returned (setV o4) ∧ Below W.heap.size W w'))
    (C1 : Hid (∀ W, Calls Try.prog 17 #[setV bo] W fun e w' => e = .returned (.int .i64 (n1 : Int)) ∧ Below W.heap.size W w'))
    (C2 : Hid (∀ W, Calls Try.prog 17 #[setV o3] W fun e w' => e = .returned (.int .i64 (n2 : Int)) ∧ Below W.heap.size W w'))
    (C3 : Hid (∀ W, Calls Try.prog 17 #[setV p] W fun e w' => e = .returned (.int .i64 (n3 : Int)) ∧ Below W.heap.size W w'))
    (C4 : Hid (∀ W, Calls Try.prog 17 #[setV q] W fun e w' => e = .returned (.int .i64 (n4 : Int)) ∧ Below W.heap.size W w'))
    (E1 : ∀ w, (binOp .eql 25 (setV o2) (setV r)).run Try.prog w = .ok (.bool true) w)
    (E2 : ∀ w, (binOp .eql 25 (setV p2) (setV p)).run Try.prog w = .ok (.bool true) w)
    (E3 : ∀ w, (binOp .eql 25 (setV o3) (setV o4)).run Try.prog w = .ok (.bool true) w)
    (w1 : IntKind.i64.wrap ((n1 : Int) + (n2 : Int)) = (s : Int)) (w2 : IntKind.i64.wrap ((n3 : Int) + (n4 : Int)) = (s : Int)) :
    Calls Try.prog 7 #[setV p, setV q, .int .u8 (c : Int)] w fun e w' => e = .returned (.bool true) ∧ Below w.heap.size w w' := by
  go_enter Try.func7, Try.ntmps7
  go_upto_region 1 with fail
  have ra : Row ((w.alloc (.cells (setA p) 25)).alloc (.cells (setA q) 25)) w.heap.size 25 (setA p) := (Row.new w _ _).alloc _
  have rb : Row ((w.alloc (.cells (setA p) 25)).alloc (.cells (setA q) 25)) (w.heap.size + 1) 25 (setA q) := Row.new' (by simp)
  have hB : Below w.heap.size w ((w.alloc (.cells (setA p) 25)).alloc (.cells (setA q) 25)) := by repeat (first | (with_reducible exact Below.refl _ _) | (with_reducible refine Below.drew ?_) | (refine Below.setCell ?_ (by first | exact Nat.le_refl _ | (simp; done) | (simp; omega) | omega) _) | (refine Below.alloc ?_ (by first | exact Nat.le_refl _ | (simp; done) | (simp; omega) | omega) _) | (refine Below.trans ?_ (Below.mono (by assumption) (by first | exact Nat.le_refl _ | (simp; done) | (simp; omega) | omega))))
  generalize ((w.alloc (.cells (setA p) 25)).alloc (.cells (setA q) 25)) = u1 at *
  go_wp2_with fail
  refine (HA.out _ (hM.on hB)).mono ?_; rintro e u2 ⟨rfl, hb2⟩; (try dsimp only)
  have ra := ra.on hb2
  have rb := rb.on hb2
  have hB2 : Below w.heap.size w u2 := hB.trans (hb2.mono hB.size)
  clear hB hb2 hM HA
  obtain ⟨k0, k1, k2, k3, f0, f1, f2, f3, z0⟩ := ra.four
  obtain ⟨m0, m1, m2, m3, g0, g1, g2, g3, y0⟩ := rb.four
  clear f0 f1 f2 f3 g0 g1 g2 g3
  have hs2 := hB2.size
  go_upto_region 3 with fail
  refine wp_region_keep (t := fun j => match j with | 7 => 6 | k => k) (al := fun j => match j with | 6 => true | _ => false) (loud := fun j => match j with | 7 => true | _ => false)
    (R := fun j v u w' => match j with
      | 0 => v = setV p
      | 1 => v = setV np
      | 2 => v = setV q
      | 3 => v = setV nq
      | 4 => v = setV o1
      | 5 => v = setV bo
      | 6 => NewR (u2.heap.size) 25 4 v w'
      | 7 => HasR u 25 #[.int .u64 ((wd bo 0 : Nat) : Int), .int .u64 ((wd bo 1 : Nat) : Int), .int .u64 ((wd bo 2 : Nat) : Int), .int .u64 ((wd bo 3 : Nat) : Int)] w'
      | _ => True) (by kernel_rfl) (by kernel_rfl) (by kernel_rfl) ?_ ?_ ?_ ?_
  · intro j v u w1_ w2_ h_ hF_ hB_
    (try dsimp only at h_ ⊢)
    split at h_ <;> first | exact h_ | exact NewR.on h_ hB_ | exact HasR.on h_ hB_ | exact IsNum.on h_ hB_ | exact HasNum.on h_ hB_ | exact RHeld.on h_ hB_ | trivial
  · intro j v u w1_ h1_ h_
    (try dsimp only at h1_ h_)
    split at h1_ <;> first | exact NewR.ptr h_ | (cases h1_)
  · intro vs
    simp only [putAll, Act.put, List.setIfInBounds_toArray, List.set_cons_zero, List.set_cons_succ, Nat.zero_add, Nat.reduceAdd]
    refine ⟨?_, ?_, ?_, ?_, ?_, ?_, ?_, ?_, trivial⟩
    · intro w0_ hF_ hd_ Q_ K_ hK_
      have hc0_ := (bcell hF_).1
      have hf0_ := (bcell hF_).2
      have hz0_ := hF_.size; (try simp at hz0_)
      (try simp at hc0_ hf0_)
      have : w.heap.size < w0_.heap.size := by omega
      have : w.heap.size + 1 < w0_.heap.size := by omega
      simp only [DepsR, Region.binds, Nat.zero_add, Nat.reduceAdd, true_implies, Bool.false_eq_true, false_implies, and_true, true_and, BEq.rfl, reduceCtorEq] at hd_
      go_simp
      exact hK_.out _ _ _ (by first | rfl | (simp only [Act.put, List.setIfInBounds_toArray, List.set_cons_zero, List.set_cons_succ, hd_]; done) | (simp only [Act.put, List.setIfInBounds_toArray, List.set_cons_zero, List.set_cons_succ, hd_]; rfl)) (Below.refl _ _) rfl (fun h => by cases h)
    · intro w0_ hF_ hd_ Q_ K_ hK_
      have hc0_ := (bcell hF_).1
      have hf0_ := (bcell hF_).2
      have hz0_ := hF_.size; (try simp at hz0_)
      (try simp at hc0_ hf0_)
      have : w.heap.size < w0_.heap.size := by omega
      have : w.heap.size + 1 < w0_.heap.size := by omega
      simp only [DepsR, Region.binds, Nat.zero_add, Nat.reduceAdd, true_implies, Bool.false_eq_true, false_implies, and_true, true_and, BEq.rfl, reduceCtorEq] at hd_
      go_simp
      refine (N1.out _).mono ?_
      rintro e_ w1_ ⟨rfl, hb_⟩
      exact hK_.out _ _ _ (by first | rfl | (simp only [Act.put, List.setIfInBounds_toArray, List.set_cons_zero, List.set_cons_succ, hd_]; done) | (simp only [Act.put, List.setIfInBounds_toArray, List.set_cons_zero, List.set_cons_succ, hd_]; rfl)) hb_ rfl (fun h => by cases h)
    · intro w0_ hF_ hd_ Q_ K_ hK_
      have hc0_ := (bcell hF_).1
      have hf0_ := (bcell hF_).2
      have hz0_ := hF_.size; (try simp at hz0_)
      (try simp at hc0_ hf0_)
      have : w.heap.size < w0_.heap.size := by omega
      have : w.heap.size + 1 < w0_.heap.size := by omega
      simp only [DepsR, Region.binds, Nat.zero_add, Nat.reduceAdd, true_implies, Bool.false_eq_true, false_implies, and_true, true_and, BEq.rfl, reduceCtorEq] at hd_
      go_simp
      exact hK_.out _ _ _ (by first | rfl | (simp only [Act.put, List.setIfInBounds_toArray, List.set_cons_zero, List.set_cons_succ, hd_]; done) | (simp only [Act.put, List.setIfInBounds_toArray, List.set_cons_zero, List.set_cons_succ, hd_]; rfl)) (Below.refl _ _) rfl (fun h => by cases h)
    · intro w0_ hF_ hd_ Q_ K_ hK_
      have hc0_ := (bcell hF_).1
      have hf0_ := (bcell hF_).2
      have hz0_ := hF_.size; (try simp at hz0_)
      (try simp at hc0_ hf0_)
      have : w.heap.size < w0_.heap.size := by omega
      have : w.heap.size + 1 < w0_.heap.size := by omega
      simp only [DepsR, Region.binds, Nat.zero_add, Nat.reduceAdd, true_implies, Bool.false_eq_true, false_implies, and_true, true_and, BEq.rfl, reduceCtorEq] at hd_
      go_simp
      refine (N2.out _).mono ?_
      rintro e_ w1_ ⟨rfl, hb_⟩
      exact hK_.out _ _ _ (by first | rfl | (simp only [Act.put, List.setIfInBounds_toArray, List.set_cons_zero, List.set_cons_succ, hd_]; done) | (simp only [Act.put, List.setIfInBounds_toArray, List.set_cons_zero, List.set_cons_succ, hd_]; rfl)) hb_ rfl (fun h => by cases h)
    · intro w0_ hF_ hd_ Q_ K_ hK_
      have hc0_ := (bcell hF_).1
      have hf0_ := (bcell hF_).2
      have hz0_ := hF_.size; (try simp at hz0_)
      (try simp at hc0_ hf0_)
      have : w.heap.size < w0_.heap.size := by omega
      have : w.heap.size + 1 < w0_.heap.size := by omega
      simp only [DepsR, Region.binds, Nat.zero_add, Nat.reduceAdd, true_implies, Bool.false_eq_true, false_implies, and_true, true_and, BEq.rfl, reduceCtorEq] at hd_
      go_simp
      refine (O1.out _).mono ?_
      rintro e_ w1_ ⟨rfl, hb_⟩
      exact hK_.out _ _ _ (by first | rfl | (simp only [Act.put, List.setIfInBounds_toArray, List.set_cons_zero, List.set_cons_succ, hd_]; done) | (simp only [Act.put, List.setIfInBounds_toArray, List.set_cons_zero, List.set_cons_succ, hd_]; rfl)) hb_ rfl (fun h => by cases h)
    · intro w0_ hF_ hd_ Q_ K_ hK_
      have hc0_ := (bcell hF_).1
      have hf0_ := (bcell hF_).2
      have hz0_ := hF_.size; (try simp at hz0_)
      (try simp at hc0_ hf0_)
      have : w.heap.size < w0_.heap.size := by omega
      have : w.heap.size + 1 < w0_.heap.size := by omega
      simp only [DepsR, Region.binds, Nat.zero_add, Nat.reduceAdd, true_implies, Bool.false_eq_true, false_implies, and_true, true_and, BEq.rfl, reduceCtorEq] at hd_
      go_simp
      refine (N3.out _).mono ?_
      rintro e_ w1_ ⟨rfl, hb_⟩
      exact hK_.out _ _ _ (by first | rfl | (simp only [Act.put, List.setIfInBounds_toArray, List.set_cons_zero, List.set_cons_succ, hd_]; done) | (simp only [Act.put, List.setIfInBounds_toArray, List.set_cons_zero, List.set_cons_succ, hd_]; rfl)) hb_ rfl (fun h => by cases h)
    · intro w0_ hF_ hd_ Q_ K_ hK_
      have hc0_ := (bcell hF_).1
      have hf0_ := (bcell hF_).2
      have hz0_ := hF_.size; (try simp at hz0_)
      (try simp at hc0_ hf0_)
      have : w.heap.size < w0_.heap.size := by omega
      have : w.heap.size + 1 < w0_.heap.size := by omega
      simp only [DepsR, Region.binds, Nat.zero_add, Nat.reduceAdd, true_implies, Bool.false_eq_true, false_implies, and_true, true_and, BEq.rfl, reduceCtorEq] at hd_
      go_simp
      exact hK_.out _ _ _ (by first | rfl | (simp only [Act.put, List.setIfInBounds_toArray, List.set_cons_zero, List.set_cons_succ, hd_]; done) | (simp only [Act.put, List.setIfInBounds_toArray, List.set_cons_zero, List.set_cons_succ, hd_]; rfl)) ((Below.refl _ _).alloc (Nat.le_refl _) _) ⟨_, _, rfl, by omega, rfl, Lies.fresh _ _ _⟩ (fun _ => ⟨_, rfl, Nat.le_refl _⟩)
    · intro w0_ hF_ hd_ Q_ K_ hK_
      have hc0_ := (bcell hF_).1
      have hf0_ := (bcell hF_).2
      have hz0_ := hF_.size; (try simp at hz0_)
      (try simp at hc0_ hf0_)
      have : w.heap.size < w0_.heap.size := by omega
      have : w.heap.size + 1 < w0_.heap.size := by omega
      simp only [DepsR, Region.binds, Nat.zero_add, Nat.reduceAdd, true_implies, Bool.false_eq_true, false_implies, and_true, true_and, BEq.rfl, reduceCtorEq] at hd_
      obtain ⟨b_, cs_, hv_, hB_, hn_, hl_⟩ : NewR (u2.heap.size) 25 4 (vs 6) w0_ := by simp only [hd_]
      obtain ⟨c0_, c1_, c2_, c3_, rfl⟩ := size4 hn_
      obtain ⟨k0_, k1_, k2_, k3_, f0_, f1_, f2_, f3_⟩ := hl_.cells4
      go_simp
      refine hK_.out _ undef _ (by first | rfl | (simp only [Act.put, List.setIfInBounds_toArray, List.set_cons_zero, List.set_cons_succ, hd_, hv_]; done) | (simp only [Act.put, List.setIfInBounds_toArray, List.set_cons_zero, List.set_cons_succ, hd_, hv_]; rfl)) ⟨?_, fun j_ hj_ hd2_ h_ => ?_⟩ ⟨b_, by simpa using hv_, hl_.put4 _ _ _ _⟩ (fun h => by cases h)
      · refine Below.setCell ?_ (by simp; omega) _; refine Below.setCell ?_ (by simp; omega) _; refine Below.setCell ?_ (by simp; omega) _; refine Below.setCell ?_ (by simp; omega) _; exact hF_
      · (try dsimp only at h_ hd2_ ⊢)
        split at h_ <;> first | exact h_ | exact ⟨b_, _, by simpa using hv_, hB_, rfl, hl_.put4 _ _ _ _⟩ | (exact NewR.far4 h_ hv_ (hd2_ rfl rfl (by decide)) _ _ _ _) | (exact HasR.far4 h_ hv_ (hd2_ rfl rfl (by decide)) _ _ _ _) | trivial
  · intro vs u3 hBu3 hA_ hD_
    simp only [AllR, Nat.zero_add, Nat.reduceAdd, and_true] at hA_
    obtain ⟨r0_, r1_, r2_, r3_, r4_, r5_, r6_, r7_⟩ := hA_
    obtain ⟨b6u3, e6_, l6⟩ := r7_
    obtain ⟨b_, cs_, e_, hb6, n_, l_⟩ := r6_
    obtain rfl : b6u3 = b_ := by have := e_.symm.trans e6_; simpa using this.symm
    clear e_ n_ l_
    clear hD_
    simp only [putAll, Act.put, List.setIfInBounds_toArray, List.set_cons_zero, List.set_cons_succ, Nat.zero_add, Nat.reduceAdd, r0_, r1_, r2_, r3_, r4_, r5_, e6_]
    clear r0_ r1_ r2_ r3_ r4_ r5_ e6_
    obtain ⟨hcu3, hfu3⟩ := bcell hBu3; (try simp only [World.size_drew, World.cell?_drew, World.frozen?_drew] at hcu3 hfu3); have hzu3 := hBu3.size; (try simp at hzu3)
    have : w.heap.size < u3.heap.size := by omega
    have : w.heap.size + 1 < u3.heap.size := by omega
    obtain ⟨k6_0, k6_1, k6_2, k6_3, f6_0, f6_1, f6_2, f6_3⟩ := l6.cells4
    have : b6u3 < u3.heap.size := l6.lt
    have ra3 := ra.on hBu3
    have rb3 := rb.on hBu3
    have hB3 : Below w.heap.size w u3 := hB2.trans (hBu3.mono hs2)
    clear k0 k1 k2 k3 m0 m1 m2 m3 hcu3 hfu3 f6_0 f6_1 f6_2 f6_3
    obtain ⟨k0, k1, k2, k3, f0, f1, f2, f3, z0'⟩ := ra3.four
    obtain ⟨m0, m1, m2, m3, g0, g1, g2, g3, y0'⟩ := rb3.four
    clear f0 f1 f2 f3 g0 g1 g2 g3 ra3 rb3 ra rb
    go_upto_region 4 with fail
    refine wp_region_keep (t := fun j => j) (al := fun _ => false) (loud := fun _ => false)
      (R := fun j v u w' => match j with
        | 0 => v = setV bo
        | 1 => v = .int .u8 (c : Int)
        | 2 => v = .bool true
        | 3 => v = setV p
        | 4 => v = .int .u8 (c : Int)
        | 5 => v = .bool true
        | 6 => v = .bool true
        | 7 => v = setV q
        | 8 => v = .int .u8 (c : Int)
        | 9 => v = .bool true
        | 10 => v = .bool true
        | 11 => v = .bool true
        | 12 => v = .bool true
        | 13 => v = setV p
        | 14 => v = setV p
        | 15 => v = setV np
        | 16 => v = setV o2
        | 17 => v = setV r
        | 18 => v = .bool true
        | 19 => v = .bool true
        | 20 => v = .bool true
        | 21 => v = setV p
        | 22 => v = setV p
        | 23 => v = setV p2
        | 24 => v = setV p
        | 25 => v = .bool true
        | 26 => v = .bool true
        | 27 => v = .bool true
        | 28 => v = setV p
        | 29 => v = setV q
        | 30 => v = setV o3
        | 31 => v = setV q
        | 32 => v = setV p
        | 33 => v = setV o4
        | 34 => v = .bool true
        | 35 => v = .bool true
        | 36 => v = .bool true
        | 37 => v = setV bo
        | 38 => v = .int .i64 (n1 : Int)
        | 39 => v = setV p
        | 40 => v = setV q
        | 41 => v = setV o3
        | 42 => v = .int .i64 (n2 : Int)
        | 43 => v = .int .i64 (s : Int)
        | 44 => v = setV p
        | 45 => v = .int .i64 (n3 : Int)
        | 46 => v = setV q
        | 47 => v = .int .i64 (n4 : Int)
        | 48 => v = .int .i64 (s : Int)
        | 49 => v = .bool true
        | 50 => v = .bool true
        | 51 => v = .bool true
        | _ => True) (by kernel_rfl) (by kernel_rfl) (by kernel_rfl) ?_ ?_ ?_ ?_
    · intro j v u w1_ w2_ h_ hF_ hB_
      (try dsimp only at h_ ⊢)
      split at h_ <;> first | exact h_ | exact NewR.on h_ hB_ | exact HasR.on h_ hB_ | exact IsNum.on h_ hB_ | exact HasNum.on h_ hB_ | exact RHeld.on h_ hB_ | trivial
    · intro j v u w1_ h1_ h_
      cases h1_
    · intro vs
      simp only [putAll, Act.put, List.setIfInBounds_toArray, List.set_cons_zero, List.set_cons_succ, Nat.zero_add, Nat.reduceAdd]
      refine ⟨?_, ?_, ?_, ?_, ?_, ?_, ?_, ?_, ?_, ?_, ?_, ?_, ?_, ?_, ?_, ?_, ?_, ?_, ?_, ?_, ?_, ?_, ?_, ?_, ?_, ?_, ?_, ?_, ?_, ?_, ?_, ?_, ?_, ?_, ?_, ?_, ?_, ?_, ?_, ?_, ?_, ?_, ?_, ?_, ?_, ?_, ?_, ?_, ?_, ?_, ?_, ?_, trivial⟩
      · intro w0_ hF_ hd_ Q_ K_ hK_
        have hc0_ := (bcell hF_).1
        have hf0_ := (bcell hF_).2
        have hz0_ := hF_.size; (try simp at hz0_)
        (try simp at hc0_ hf0_)
        have : w.heap.size < w0_.heap.size := by omega
        have : w.heap.size + 1 < w0_.heap.size := by omega
        have : b6u3 < w0_.heap.size := by omega
        simp only [DepsR, Region.binds, Nat.zero_add, Nat.reduceAdd, true_implies, Bool.false_eq_true, false_implies, and_true, true_and, BEq.rfl, reduceCtorEq] at hd_
        go_simp
        exact hK_.out _ _ _ (by first | rfl | (simp only [Act.put, List.setIfInBounds_toArray, List.set_cons_zero, List.set_cons_succ, hd_]; done) | (simp only [Act.put, List.setIfInBounds_toArray, List.set_cons_zero, List.set_cons_succ, hd_]; rfl)) (Below.refl _ _) rfl (fun h => by cases h)
      · intro w0_ hF_ hd_ Q_ K_ hK_
        have hc0_ := (bcell hF_).1
        have hf0_ := (bcell hF_).2
        have hz0_ := hF_.size; (try simp at hz0_)
        (try simp at hc0_ hf0_)
        have : w.heap.size < w0_.heap.size := by omega
        have : w.heap.size + 1 < w0_.heap.size := by omega
        have : b6u3 < w0_.heap.size := by omega
        simp only [DepsR, Region.binds, Nat.zero_add, Nat.reduceAdd, true_implies, Bool.false_eq_true, false_implies, and_true, true_and, BEq.rfl, reduceCtorEq] at hd_
        go_simp
        exact hK_.out _ _ _ (by first | rfl | (simp only [Act.put, List.setIfInBounds_toArray, List.set_cons_zero, List.set_cons_succ, hd_]; done) | (simp only [Act.put, List.setIfInBounds_toArray, List.set_cons_zero, List.set_cons_succ, hd_]; rfl)) (Below.refl _ _) rfl (fun h => by cases h)
      · intro w0_ hF_ hd_ Q_ K_ hK_
        have hc0_ := (bcell hF_).1
        have hf0_ := (bcell hF_).2
        have hz0_ := hF_.size; (try simp at hz0_)
        (try simp at hc0_ hf0_)
        have : w.heap.size < w0_.heap.size := by omega
        have : w.heap.size + 1 < w0_.heap.size := by omega
        have : b6u3 < w0_.heap.size := by omega
        simp only [DepsR, Region.binds, Nat.zero_add, Nat.reduceAdd, true_implies, Bool.false_eq_true, false_implies, and_true, true_and, BEq.rfl, reduceCtorEq] at hd_
        go_simp
        refine (H1.out _).mono ?_
        rintro e_ w1_ ⟨rfl, hb_⟩
        exact hK_.out _ _ _ (by first | rfl | (simp only [Act.put, List.setIfInBounds_toArray, List.set_cons_zero, List.set_cons_succ, hd_]; done) | (simp only [Act.put, List.setIfInBounds_toArray, List.set_cons_zero, List.set_cons_succ, hd_]; rfl)) hb_ rfl (fun h => by cases h)
      · intro w0_ hF_ hd_ Q_ K_ hK_
        have hc0_ := (bcell hF_).1
        have hf0_ := (bcell hF_).2
        have hz0_ := hF_.size; (try simp at hz0_)
        (try simp at hc0_ hf0_)
        have : w.heap.size < w0_.heap.size := by omega
        have : w.heap.size + 1 < w0_.heap.size := by omega
        have : b6u3 < w0_.heap.size := by omega
        simp only [DepsR, Region.binds, Nat.zero_add, Nat.reduceAdd, true_implies, Bool.false_eq_true, false_implies, and_true, true_and, BEq.rfl, reduceCtorEq] at hd_
        go_simp
        exact hK_.out _ _ _ (by first | rfl | (simp only [Act.put, List.setIfInBounds_toArray, List.set_cons_zero, List.set_cons_succ, hd_]; done) | (simp only [Act.put, List.setIfInBounds_toArray, List.set_cons_zero, List.set_cons_succ, hd_]; rfl)) (Below.refl _ _) rfl (fun h => by cases h)
      · intro w0_ hF_ hd_ Q_ K_ hK_
        have hc0_ := (bcell hF_).1
        have hf0_ := (bcell hF_).2
        have hz0_ := hF_.size; (try simp at hz0_)
        (try simp at hc0_ hf0_)
        have : w.heap.size < w0_.heap.size := by omega
        have : w.heap.size + 1 < w0_.heap.size := by omega
        have : b6u3 < w0_.heap.size := by omega
        simp only [DepsR, Region.binds, Nat.zero_add, Nat.reduceAdd, true_implies, Bool.false_eq_true, false_implies, and_true, true_and, BEq.rfl, reduceCtorEq] at hd_
        go_simp
        exact hK_.out _ _ _ (by first | rfl | (simp only [Act.put, List.setIfInBounds_toArray, List.set_cons_zero, List.set_cons_succ, hd_]; done) | (simp only [Act.put, List.setIfInBounds_toArray, List.set_cons_zero, List.set_cons_succ, hd_]; rfl)) (Below.refl _ _) rfl (fun h => by cases h)
      · intro w0_ hF_ hd_ Q_ K_ hK_
        have hc0_ := (bcell hF_).1
        have hf0_ := (bcell hF_).2
        have hz0_ := hF_.size; (try simp at hz0_)
        (try simp at hc0_ hf0_)
        have : w.heap.size < w0_.heap.size := by omega
        have : w.heap.size + 1 < w0_.heap.size := by omega
        have : b6u3 < w0_.heap.size := by omega
        simp only [DepsR, Region.binds, Nat.zero_add, Nat.reduceAdd, true_implies, Bool.false_eq_true, false_implies, and_true, true_and, BEq.rfl, reduceCtorEq] at hd_
        go_simp
        refine (H2.out _).mono ?_
        rintro e_ w1_ ⟨rfl, hb_⟩
        exact hK_.out _ _ _ (by first | rfl | (simp only [Act.put, List.setIfInBounds_toArray, List.set_cons_zero, List.set_cons_succ, hd_]; done) | (simp only [Act.put, List.setIfInBounds_toArray, List.set_cons_zero, List.set_cons_succ, hd_]; rfl)) hb_ rfl (fun h => by cases h)
      · intro w0_ hF_ hd_ Q_ K_ hK_
        have hc0_ := (bcell hF_).1
        have hf0_ := (bcell hF_).2
        have hz0_ := hF_.size; (try simp at hz0_)
        (try simp at hc0_ hf0_)
        have : w.heap.size < w0_.heap.size := by omega
        have : w.heap.size + 1 < w0_.heap.size := by omega
        have : b6u3 < w0_.heap.size := by omega
        simp only [DepsR, Region.binds, Nat.zero_add, Nat.reduceAdd, true_implies, Bool.false_eq_true, false_implies, and_true, true_and, BEq.rfl, reduceCtorEq] at hd_
        go_simp
        exact hK_.out _ _ _ (by first | rfl | (simp only [Act.put, List.setIfInBounds_toArray, List.set_cons_zero, List.set_cons_succ, hd_]; done) | (simp only [Act.put, List.setIfInBounds_toArray, List.set_cons_zero, List.set_cons_succ, hd_]; rfl)) (Below.refl _ _) rfl (fun h => by cases h)
      · intro w0_ hF_ hd_ Q_ K_ hK_
        have hc0_ := (bcell hF_).1
        have hf0_ := (bcell hF_).2
        have hz0_ := hF_.size; (try simp at hz0_)
        (try simp at hc0_ hf0_)
        have : w.heap.size < w0_.heap.size := by omega
        have : w.heap.size + 1 < w0_.heap.size := by omega
        have : b6u3 < w0_.heap.size := by omega
        simp only [DepsR, Region.binds, Nat.zero_add, Nat.reduceAdd, true_implies, Bool.false_eq_true, false_implies, and_true, true_and, BEq.rfl, reduceCtorEq] at hd_
        go_simp
        exact hK_.out _ _ _ (by first | rfl | (simp only [Act.put, List.setIfInBounds_toArray, List.set_cons_zero, List.set_cons_succ, hd_]; done) | (simp only [Act.put, List.setIfInBounds_toArray, List.set_cons_zero, List.set_cons_succ, hd_]; rfl)) (Below.refl _ _) rfl (fun h => by cases h)
      · intro w0_ hF_ hd_ Q_ K_ hK_
        have hc0_ := (bcell hF_).1
        have hf0_ := (bcell hF_).2
        have hz0_ := hF_.size; (try simp at hz0_)
        (try simp at hc0_ hf0_)
        have : w.heap.size < w0_.heap.size := by omega
        have : w.heap.size + 1 < w0_.heap.size := by omega
        have : b6u3 < w0_.heap.size := by omega
        simp only [DepsR, Region.binds, Nat.zero_add, Nat.reduceAdd, true_implies, Bool.false_eq_true, false_implies, and_true, true_and, BEq.rfl, reduceCtorEq] at hd_
        go_simp
        exact hK_.out _ _ _ (by first | rfl | (simp only [Act.put, List.setIfInBounds_toArray, List.set_cons_zero, List.set_cons_succ, hd_]; done) | (simp only [Act.put, List.setIfInBounds_toArray, List.set_cons_zero, List.set_cons_succ, hd_]; rfl)) (Below.refl _ _) rfl (fun h => by cases h)
      · intro w0_ hF_ hd_ Q_ K_ hK_
        have hc0_ := (bcell hF_).1
        have hf0_ := (bcell hF_).2
        have hz0_ := hF_.size; (try simp at hz0_)
        (try simp at hc0_ hf0_)
        have : w.heap.size < w0_.heap.size := by omega
        have : w.heap.size + 1 < w0_.heap.size := by omega
        have : b6u3 < w0_.heap.size := by omega
        simp only [DepsR, Region.binds, Nat.zero_add, Nat.reduceAdd, true_implies, Bool.false_eq_true, false_implies, and_true, true_and, BEq.rfl, reduceCtorEq] at hd_
        go_simp
        refine (H3.out _).mono ?_
        rintro e_ w1_ ⟨rfl, hb_⟩
        exact hK_.out _ _ _ (by first | rfl | (simp only [Act.put, List.setIfInBounds_toArray, List.set_cons_zero, List.set_cons_succ, hd_]; done) | (simp only [Act.put, List.setIfInBounds_toArray, List.set_cons_zero, List.set_cons_succ, hd_]; rfl)) hb_ rfl (fun h => by cases h)
      · intro w0_ hF_ hd_ Q_ K_ hK_
        have hc0_ := (bcell hF_).1
        have hf0_ := (bcell hF_).2
        have hz0_ := hF_.size; (try simp at hz0_)
        (try simp at hc0_ hf0_)
        have : w.heap.size < w0_.heap.size := by omega
        have : w.heap.size + 1 < w0_.heap.size := by omega
        have : b6u3 < w0_.heap.size := by omega
        simp only [DepsR, Region.binds, Nat.zero_add, Nat.reduceAdd, true_implies, Bool.false_eq_true, false_implies, and_true, true_and, BEq.rfl, reduceCtorEq] at hd_
        go_simp
        exact hK_.out _ _ _ (by first | rfl | (simp only [Act.put, List.setIfInBounds_toArray, List.set_cons_zero, List.set_cons_succ, hd_]; done) | (simp only [Act.put, List.setIfInBounds_toArray, List.set_cons_zero, List.set_cons_succ, hd_]; rfl)) (Below.refl _ _) rfl (fun h => by cases h)
      · intro w0_ hF_ hd_ Q_ K_ hK_
        have hc0_ := (bcell hF_).1
        have hf0_ := (bcell hF_).2
        have hz0_ := hF_.size; (try simp at hz0_)
        (try simp at hc0_ hf0_)
        have : w.heap.size < w0_.heap.size := by omega
        have : w.heap.size + 1 < w0_.heap.size := by omega
        have : b6u3 < w0_.heap.size := by omega
        simp only [DepsR, Region.binds, Nat.zero_add, Nat.reduceAdd, true_implies, Bool.false_eq_true, false_implies, and_true, true_and, BEq.rfl, reduceCtorEq] at hd_
        go_simp
        exact hK_.out _ _ _ (by first | rfl | (simp only [Act.put, List.setIfInBounds_toArray, List.set_cons_zero, List.set_cons_succ, hd_]; done) | (simp only [Act.put, List.setIfInBounds_toArray, List.set_cons_zero, List.set_cons_succ, hd_]; rfl)) (Below.refl _ _) rfl (fun h => by cases h)
      · intro w0_ hF_ hd_ Q_ K_ hK_
        have hc0_ := (bcell hF_).1
        have hf0_ := (bcell hF_).2
        have hz0_ := hF_.size; (try simp at hz0_)
        (try simp at hc0_ hf0_)
        have : w.heap.size < w0_.heap.size := by omega
        have : w.heap.size + 1 < w0_.heap.size := by omega
        have : b6u3 < w0_.heap.size := by omega
        simp only [DepsR, Region.binds, Nat.zero_add, Nat.reduceAdd, true_implies, Bool.false_eq_true, false_implies, and_true, true_and, BEq.rfl, reduceCtorEq] at hd_
        go_simp
        exact hK_.out _ _ _ (by first | rfl | (simp only [Act.put, List.setIfInBounds_toArray, List.set_cons_zero, List.set_cons_succ, hd_]; done) | (simp only [Act.put, List.setIfInBounds_toArray, List.set_cons_zero, List.set_cons_succ, hd_]; rfl)) (Below.refl _ _) rfl (fun h => by cases h)
      · intro w0_ hF_ hd_ Q_ K_ hK_
        have hc0_ := (bcell hF_).1
        have hf0_ := (bcell hF_).2
        have hz0_ := hF_.size; (try simp at hz0_)
        (try simp at hc0_ hf0_)
        have : w.heap.size < w0_.heap.size := by omega
        have : w.heap.size + 1 < w0_.heap.size := by omega
        have : b6u3 < w0_.heap.size := by omega
        simp only [DepsR, Region.binds, Nat.zero_add, Nat.reduceAdd, true_implies, Bool.false_eq_true, false_implies, and_true, true_and, BEq.rfl, reduceCtorEq] at hd_
        go_simp
        exact hK_.out _ _ _ (by first | rfl | (simp only [Act.put, List.setIfInBounds_toArray, List.set_cons_zero, List.set_cons_succ, hd_]; done) | (simp only [Act.put, List.setIfInBounds_toArray, List.set_cons_zero, List.set_cons_succ, hd_]; rfl)) (Below.refl _ _) rfl (fun h => by cases h)
      · intro w0_ hF_ hd_ Q_ K_ hK_
        have hc0_ := (bcell hF_).1
        have hf0_ := (bcell hF_).2
        have hz0_ := hF_.size; (try simp at hz0_)
        (try simp at hc0_ hf0_)
        have : w.heap.size < w0_.heap.size := by omega
        have : w.heap.size + 1 < w0_.heap.size := by omega
        have : b6u3 < w0_.heap.size := by omega
        simp only [DepsR, Region.binds, Nat.zero_add, Nat.reduceAdd, true_implies, Bool.false_eq_true, false_implies, and_true, true_and, BEq.rfl, reduceCtorEq] at hd_
        go_simp
        exact hK_.out _ _ _ (by first | rfl | (simp only [Act.put, List.setIfInBounds_toArray, List.set_cons_zero, List.set_cons_succ, hd_]; done) | (simp only [Act.put, List.setIfInBounds_toArray, List.set_cons_zero, List.set_cons_succ, hd_]; rfl)) (Below.refl _ _) rfl (fun h => by cases h)
      · intro w0_ hF_ hd_ Q_ K_ hK_
        have hc0_ := (bcell hF_).1
        have hf0_ := (bcell hF_).2
        have hz0_ := hF_.size; (try simp at hz0_)
        (try simp at hc0_ hf0_)
        have : w.heap.size < w0_.heap.size := by omega
        have : w.heap.size + 1 < w0_.heap.size := by omega
        have : b6u3 < w0_.heap.size := by omega
        simp only [DepsR, Region.binds, Nat.zero_add, Nat.reduceAdd, true_implies, Bool.false_eq_true, false_implies, and_true, true_and, BEq.rfl, reduceCtorEq] at hd_
        go_simp
        refine (N1.out _).mono ?_
        rintro e_ w1_ ⟨rfl, hb_⟩
        exact hK_.out _ _ _ (by first | rfl | (simp only [Act.put, List.setIfInBounds_toArray, List.set_cons_zero, List.set_cons_succ, hd_]; done) | (simp only [Act.put, List.setIfInBounds_toArray, List.set_cons_zero, List.set_cons_succ, hd_]; rfl)) hb_ rfl (fun h => by cases h)
      · intro w0_ hF_ hd_ Q_ K_ hK_
        have hc0_ := (bcell hF_).1
        have hf0_ := (bcell hF_).2
        have hz0_ := hF_.size; (try simp at hz0_)
        (try simp at hc0_ hf0_)
        have : w.heap.size < w0_.heap.size := by omega
        have : w.heap.size + 1 < w0_.heap.size := by omega
        have : b6u3 < w0_.heap.size := by omega
        simp only [DepsR, Region.binds, Nat.zero_add, Nat.reduceAdd, true_implies, Bool.false_eq_true, false_implies, and_true, true_and, BEq.rfl, reduceCtorEq] at hd_
        go_simp
        refine (O2.out _).mono ?_
        rintro e_ w1_ ⟨rfl, hb_⟩
        exact hK_.out _ _ _ (by first | rfl | (simp only [Act.put, List.setIfInBounds_toArray, List.set_cons_zero, List.set_cons_succ, hd_]; done) | (simp only [Act.put, List.setIfInBounds_toArray, List.set_cons_zero, List.set_cons_succ, hd_]; rfl)) hb_ rfl (fun h => by cases h)
      · intro w0_ hF_ hd_ Q_ K_ hK_
        have hc0_ := (bcell hF_).1
        have hf0_ := (bcell hF_).2
        have hz0_ := hF_.size; (try simp at hz0_)
        (try simp at hc0_ hf0_)
        have : w.heap.size < w0_.heap.size := by omega
        have : w.heap.size + 1 < w0_.heap.size := by omega
        have : b6u3 < w0_.heap.size := by omega
        simp only [DepsR, Region.binds, Nat.zero_add, Nat.reduceAdd, true_implies, Bool.false_eq_true, false_implies, and_true, true_and, BEq.rfl, reduceCtorEq] at hd_
        go_simp
        refine (R1.out _).mono ?_
        rintro e_ w1_ ⟨rfl, hb_⟩
        exact hK_.out _ _ _ (by first | rfl | (simp only [Act.put, List.setIfInBounds_toArray, List.set_cons_zero, List.set_cons_succ, hd_]; done) | (simp only [Act.put, List.setIfInBounds_toArray, List.set_cons_zero, List.set_cons_succ, hd_]; rfl)) hb_ rfl (fun h => by cases h)
      · intro w0_ hF_ hd_ Q_ K_ hK_
        have hc0_ := (bcell hF_).1
        have hf0_ := (bcell hF_).2
        have hz0_ := hF_.size; (try simp at hz0_)
        (try simp at hc0_ hf0_)
        have : w.heap.size < w0_.heap.size := by omega
        have : w.heap.size + 1 < w0_.heap.size := by omega
        have : b6u3 < w0_.heap.size := by omega
        simp only [DepsR, Region.binds, Nat.zero_add, Nat.reduceAdd, true_implies, Bool.false_eq_true, false_implies, and_true, true_and, BEq.rfl, reduceCtorEq] at hd_
        go_simp
        exact hK_.out _ _ _ (by first | rfl | (simp only [Act.put, List.setIfInBounds_toArray, List.set_cons_zero, List.set_cons_succ, hd_]; done) | (simp only [Act.put, List.setIfInBounds_toArray, List.set_cons_zero, List.set_cons_succ, hd_]; rfl)) (Below.refl _ _) rfl (fun h => by cases h)
      · intro w0_ hF_ hd_ Q_ K_ hK_
        have hc0_ := (bcell hF_).1
        have hf0_ := (bcell hF_).2
        have hz0_ := hF_.size; (try simp at hz0_)
        (try simp at hc0_ hf0_)
        have : w.heap.size < w0_.heap.size := by omega
        have : w.heap.size + 1 < w0_.heap.size := by omega
        have : b6u3 < w0_.heap.size := by omega
        simp only [DepsR, Region.binds, Nat.zero_add, Nat.reduceAdd, true_implies, Bool.false_eq_true, false_implies, and_true, true_and, BEq.rfl, reduceCtorEq] at hd_
        go_simp
        exact hK_.out _ _ _ (by first | rfl | (simp only [Act.put, List.setIfInBounds_toArray, List.set_cons_zero, List.set_cons_succ, hd_]; done) | (simp only [Act.put, List.setIfInBounds_toArray, List.set_cons_zero, List.set_cons_succ, hd_]; rfl)) (Below.refl _ _) rfl (fun h => by cases h)
      · intro w0_ hF_ hd_ Q_ K_ hK_
        have hc0_ := (bcell hF_).1
        have hf0_ := (bcell hF_).2
        have hz0_ := hF_.size; (try simp at hz0_)
        (try simp at hc0_ hf0_)
        have : w.heap.size < w0_.heap.size := by omega
        have : w.heap.size + 1 < w0_.heap.size := by omega
        have : b6u3 < w0_.heap.size := by omega
        simp only [DepsR, Region.binds, Nat.zero_add, Nat.reduceAdd, true_implies, Bool.false_eq_true, false_implies, and_true, true_and, BEq.rfl, reduceCtorEq] at hd_
        go_simp
        exact hK_.out _ _ _ (by first | rfl | (simp only [Act.put, List.setIfInBounds_toArray, List.set_cons_zero, List.set_cons_succ, hd_]; done) | (simp only [Act.put, List.setIfInBounds_toArray, List.set_cons_zero, List.set_cons_succ, hd_]; rfl)) (Below.refl _ _) rfl (fun h => by cases h)
      · intro w0_ hF_ hd_ Q_ K_ hK_
        have hc0_ := (bcell hF_).1
        have hf0_ := (bcell hF_).2
        have hz0_ := hF_.size; (try simp at hz0_)
        (try simp at hc0_ hf0_)
        have : w.heap.size < w0_.heap.size := by omega
        have : w.heap.size + 1 < w0_.heap.size := by omega
        have : b6u3 < w0_.heap.size := by omega
        simp only [DepsR, Region.binds, Nat.zero_add, Nat.reduceAdd, true_implies, Bool.false_eq_true, false_implies, and_true, true_and, BEq.rfl, reduceCtorEq] at hd_
        go_simp
        exact hK_.out _ _ _ (by first | rfl | (simp only [Act.put, List.setIfInBounds_toArray, List.set_cons_zero, List.set_cons_succ, hd_]; done) | (simp only [Act.put, List.setIfInBounds_toArray, List.set_cons_zero, List.set_cons_succ, hd_]; rfl)) (Below.refl _ _) rfl (fun h => by cases h)
      · intro w0_ hF_ hd_ Q_ K_ hK_
        have hc0_ := (bcell hF_).1
        have hf0_ := (bcell hF_).2
        have hz0_ := hF_.size; (try simp at hz0_)
        (try simp at hc0_ hf0_)
        have : w.heap.size < w0_.heap.size := by omega
        have : w.heap.size + 1 < w0_.heap.size := by omega
        have : b6u3 < w0_.heap.size := by omega
        simp only [DepsR, Region.binds, Nat.zero_add, Nat.reduceAdd, true_implies, Bool.false_eq_true, false_implies, and_true, true_and, BEq.rfl, reduceCtorEq] at hd_
        go_simp
        exact hK_.out _ _ _ (by first | rfl | (simp only [Act.put, List.setIfInBounds_toArray, List.set_cons_zero, List.set_cons_succ, hd_]; done) | (simp only [Act.put, List.setIfInBounds_toArray, List.set_cons_zero, List.set_cons_succ, hd_]; rfl)) (Below.refl _ _) rfl (fun h => by cases h)
      · intro w0_ hF_ hd_ Q_ K_ hK_
        have hc0_ := (bcell hF_).1
        have hf0_ := (bcell hF_).2
        have hz0_ := hF_.size; (try simp at hz0_)
        (try simp at hc0_ hf0_)
        have : w.heap.size < w0_.heap.size := by omega
        have : w.heap.size + 1 < w0_.heap.size := by omega
        have : b6u3 < w0_.heap.size := by omega
        simp only [DepsR, Region.binds, Nat.zero_add, Nat.reduceAdd, true_implies, Bool.false_eq_true, false_implies, and_true, true_and, BEq.rfl, reduceCtorEq] at hd_
        go_simp
        refine (O3.out _).mono ?_
        rintro e_ w1_ ⟨rfl, hb_⟩
        exact hK_.out _ _ _ (by first | rfl | (simp only [Act.put, List.setIfInBounds_toArray, List.set_cons_zero, List.set_cons_succ, hd_]; done) | (simp only [Act.put, List.setIfInBounds_toArray, List.set_cons_zero, List.set_cons_succ, hd_]; rfl)) hb_ rfl (fun h => by cases h)
      · intro w0_ hF_ hd_ Q_ K_ hK_
        have hc0_ := (bcell hF_).1
        have hf0_ := (bcell hF_).2
        have hz0_ := hF_.size; (try simp at hz0_)
        (try simp at hc0_ hf0_)
        have : w.heap.size < w0_.heap.size := by omega
        have : w.heap.size + 1 < w0_.heap.size := by omega
        have : b6u3 < w0_.heap.size := by omega
        simp only [DepsR, Region.binds, Nat.zero_add, Nat.reduceAdd, true_implies, Bool.false_eq_true, false_implies, and_true, true_and, BEq.rfl, reduceCtorEq] at hd_
        go_simp
        exact hK_.out _ _ _ (by first | rfl | (simp only [Act.put, List.setIfInBounds_toArray, List.set_cons_zero, List.set_cons_succ, hd_]; done) | (simp only [Act.put, List.setIfInBounds_toArray, List.set_cons_zero, List.set_cons_succ, hd_]; rfl)) (Below.refl _ _) rfl (fun h => by cases h)
      · intro w0_ hF_ hd_ Q_ K_ hK_
        have hc0_ := (bcell hF_).1
        have hf0_ := (bcell hF_).2
        have hz0_ := hF_.size; (try simp at hz0_)
        (try simp at hc0_ hf0_)
        have : w.heap.size < w0_.heap.size := by omega
        have : w.heap.size + 1 < w0_.heap.size := by omega
        have : b6u3 < w0_.heap.size := by omega
        simp only [DepsR, Region.binds, Nat.zero_add, Nat.reduceAdd, true_implies, Bool.false_eq_true, false_implies, and_true, true_and, BEq.rfl, reduceCtorEq] at hd_
        go_simp
        exact hK_.out _ _ _ (by first | rfl | (simp only [Act.put, List.setIfInBounds_toArray, List.set_cons_zero, List.set_cons_succ, hd_]; done) | (simp only [Act.put, List.setIfInBounds_toArray, List.set_cons_zero, List.set_cons_succ, hd_]; rfl)) (Below.refl _ _) rfl (fun h => by cases h)
      · intro w0_ hF_ hd_ Q_ K_ hK_
        have hc0_ := (bcell hF_).1
        have hf0_ := (bcell hF_).2
        have hz0_ := hF_.size; (try simp at hz0_)
        (try simp at hc0_ hf0_)
        have : w.heap.size < w0_.heap.size := by omega
        have : w.heap.size + 1 < w0_.heap.size := by omega
        have : b6u3 < w0_.heap.size := by omega
        simp only [DepsR, Region.binds, Nat.zero_add, Nat.reduceAdd, true_implies, Bool.false_eq_true, false_implies, and_true, true_and, BEq.rfl, reduceCtorEq] at hd_
        go_simp
        exact hK_.out _ _ _ (by first | rfl | (simp only [Act.put, List.setIfInBounds_toArray, List.set_cons_zero, List.set_cons_succ, hd_]; done) | (simp only [Act.put, List.setIfInBounds_toArray, List.set_cons_zero, List.set_cons_succ, hd_]; rfl)) (Below.refl _ _) rfl (fun h => by cases h)
      · intro w0_ hF_ hd_ Q_ K_ hK_
        have hc0_ := (bcell hF_).1
        have hf0_ := (bcell hF_).2
        have hz0_ := hF_.size; (try simp at hz0_)
        (try simp at hc0_ hf0_)
        have : w.heap.size < w0_.heap.size := by omega
        have : w.heap.size + 1 < w0_.heap.size := by omega
        have : b6u3 < w0_.heap.size := by omega
        simp only [DepsR, Region.binds, Nat.zero_add, Nat.reduceAdd, true_implies, Bool.false_eq_true, false_implies, and_true, true_and, BEq.rfl, reduceCtorEq] at hd_
        go_simp
        exact hK_.out _ _ _ (by first | rfl | (simp only [Act.put, List.setIfInBounds_toArray, List.set_cons_zero, List.set_cons_succ, hd_]; done) | (simp only [Act.put, List.setIfInBounds_toArray, List.set_cons_zero, List.set_cons_succ, hd_]; rfl)) (Below.refl _ _) rfl (fun h => by cases h)
      · intro w0_ hF_ hd_ Q_ K_ hK_
        have hc0_ := (bcell hF_).1
        have hf0_ := (bcell hF_).2
        have hz0_ := hF_.size; (try simp at hz0_)
        (try simp at hc0_ hf0_)
        have : w.heap.size < w0_.heap.size := by omega
        have : w.heap.size + 1 < w0_.heap.size := by omega
        have : b6u3 < w0_.heap.size := by omega
        simp only [DepsR, Region.binds, Nat.zero_add, Nat.reduceAdd, true_implies, Bool.false_eq_true, false_implies, and_true, true_and, BEq.rfl, reduceCtorEq] at hd_
        go_simp
        exact hK_.out _ _ _ (by first | rfl | (simp only [Act.put, List.setIfInBounds_toArray, List.set_cons_zero, List.set_cons_succ, hd_]; done) | (simp only [Act.put, List.setIfInBounds_toArray, List.set_cons_zero, List.set_cons_succ, hd_]; rfl)) (Below.refl _ _) rfl (fun h => by cases h)
      · intro w0_ hF_ hd_ Q_ K_ hK_
        have hc0_ := (bcell hF_).1
        have hf0_ := (bcell hF_).2
        have hz0_ := hF_.size; (try simp at hz0_)
        (try simp at hc0_ hf0_)
        have : w.heap.size < w0_.heap.size := by omega
        have : w.heap.size + 1 < w0_.heap.size := by omega
        have : b6u3 < w0_.heap.size := by omega
        simp only [DepsR, Region.binds, Nat.zero_add, Nat.reduceAdd, true_implies, Bool.false_eq_true, false_implies, and_true, true_and, BEq.rfl, reduceCtorEq] at hd_
        go_simp
        exact hK_.out _ _ _ (by first | rfl | (simp only [Act.put, List.setIfInBounds_toArray, List.set_cons_zero, List.set_cons_succ, hd_]; done) | (simp only [Act.put, List.setIfInBounds_toArray, List.set_cons_zero, List.set_cons_succ, hd_]; rfl)) (Below.refl _ _) rfl (fun h => by cases h)
      · intro w0_ hF_ hd_ Q_ K_ hK_
        have hc0_ := (bcell hF_).1
        have hf0_ := (bcell hF_).2
        have hz0_ := hF_.size; (try simp at hz0_)
        (try simp at hc0_ hf0_)
        have : w.heap.size < w0_.heap.size := by omega
        have : w.heap.size + 1 < w0_.heap.size := by omega
        have : b6u3 < w0_.heap.size := by omega
        simp only [DepsR, Region.binds, Nat.zero_add, Nat.reduceAdd, true_implies, Bool.false_eq_true, false_implies, and_true, true_and, BEq.rfl, reduceCtorEq] at hd_
        go_simp
        refine (O4.out _).mono ?_
        rintro e_ w1_ ⟨rfl, hb_⟩
        exact hK_.out _ _ _ (by first | rfl | (simp only [Act.put, List.setIfInBounds_toArray, List.set_cons_zero, List.set_cons_succ, hd_]; done) | (simp only [Act.put, List.setIfInBounds_toArray, List.set_cons_zero, List.set_cons_succ, hd_]; rfl)) hb_ rfl (fun h => by cases h)
      · intro w0_ hF_ hd_ Q_ K_ hK_
        have hc0_ := (bcell hF_).1
        have hf0_ := (bcell hF_).2
        have hz0_ := hF_.size; (try simp at hz0_)
        (try simp at hc0_ hf0_)
        have : w.heap.size < w0_.heap.size := by omega
        have : w.heap.size + 1 < w0_.heap.size := by omega
        have : b6u3 < w0_.heap.size := by omega
        simp only [DepsR, Region.binds, Nat.zero_add, Nat.reduceAdd, true_implies, Bool.false_eq_true, false_implies, and_true, true_and, BEq.rfl, reduceCtorEq] at hd_
        go_simp
        exact hK_.out _ _ _ (by first | rfl | (simp only [Act.put, List.setIfInBounds_toArray, List.set_cons_zero, List.set_cons_succ, hd_]; done) | (simp only [Act.put, List.setIfInBounds_toArray, List.set_cons_zero, List.set_cons_succ, hd_]; rfl)) (Below.refl _ _) rfl (fun h => by cases h)
      · intro w0_ hF_ hd_ Q_ K_ hK_
        have hc0_ := (bcell hF_).1
        have hf0_ := (bcell hF_).2
        have hz0_ := hF_.size; (try simp at hz0_)
        (try simp at hc0_ hf0_)
        have : w.heap.size < w0_.heap.size := by omega
        have : w.heap.size + 1 < w0_.heap.size := by omega
        have : b6u3 < w0_.heap.size := by omega
        simp only [DepsR, Region.binds, Nat.zero_add, Nat.reduceAdd, true_implies, Bool.false_eq_true, false_implies, and_true, true_and, BEq.rfl, reduceCtorEq] at hd_
        go_simp
        exact hK_.out _ _ _ (by first | rfl | (simp only [Act.put, List.setIfInBounds_toArray, List.set_cons_zero, List.set_cons_succ, hd_]; done) | (simp only [Act.put, List.setIfInBounds_toArray, List.set_cons_zero, List.set_cons_succ, hd_]; rfl)) (Below.refl _ _) rfl (fun h => by cases h)
      · intro w0_ hF_ hd_ Q_ K_ hK_
        have hc0_ := (bcell hF_).1
        have hf0_ := (bcell hF_).2
        have hz0_ := hF_.size; (try simp at hz0_)
        (try simp at hc0_ hf0_)
        have : w.heap.size < w0_.heap.size := by omega
        have : w.heap.size + 1 < w0_.heap.size := by omega
        have : b6u3 < w0_.heap.size := by omega
        simp only [DepsR, Region.binds, Nat.zero_add, Nat.reduceAdd, true_implies, Bool.false_eq_true, false_implies, and_true, true_and, BEq.rfl, reduceCtorEq] at hd_
        go_simp
        refine (O5.out _).mono ?_
        rintro e_ w1_ ⟨rfl, hb_⟩
        exact hK_.out _ _ _ (by first | rfl | (simp only [Act.put, List.setIfInBounds_toArray, List.set_cons_zero, List.set_cons_succ, hd_]; done) | (simp only [Act.put, List.setIfInBounds_toArray, List.set_cons_zero, List.set_cons_succ, hd_]; rfl)) hb_ rfl (fun h => by cases h)
      · intro w0_ hF_ hd_ Q_ K_ hK_
        have hc0_ := (bcell hF_).1
        have hf0_ := (bcell hF_).2
        have hz0_ := hF_.size; (try simp at hz0_)
        (try simp at hc0_ hf0_)
        have : w.heap.size < w0_.heap.size := by omega
        have : w.heap.size + 1 < w0_.heap.size := by omega
        have : b6u3 < w0_.heap.size := by omega
        simp only [DepsR, Region.binds, Nat.zero_add, Nat.reduceAdd, true_implies, Bool.false_eq_true, false_implies, and_true, true_and, BEq.rfl, reduceCtorEq] at hd_
        go_simp
        exact hK_.out _ _ _ (by first | rfl | (simp only [Act.put, List.setIfInBounds_toArray, List.set_cons_zero, List.set_cons_succ, hd_]; done) | (simp only [Act.put, List.setIfInBounds_toArray, List.set_cons_zero, List.set_cons_succ, hd_]; rfl)) (Below.refl _ _) rfl (fun h => by cases h)
      · intro w0_ hF_ hd_ Q_ K_ hK_
        have hc0_ := (bcell hF_).1
        have hf0_ := (bcell hF_).2
        have hz0_ := hF_.size; (try simp at hz0_)
        (try simp at hc0_ hf0_)
        have : w.heap.size < w0_.heap.size := by omega
        have : w.heap.size + 1 < w0_.heap.size := by omega
        have : b6u3 < w0_.heap.size := by omega
        simp only [DepsR, Region.binds, Nat.zero_add, Nat.reduceAdd, true_implies, Bool.false_eq_true, false_implies, and_true, true_and, BEq.rfl, reduceCtorEq] at hd_
        go_simp
        exact hK_.out _ _ _ (by first | rfl | (simp only [Act.put, List.setIfInBounds_toArray, List.set_cons_zero, List.set_cons_succ, hd_]; done) | (simp only [Act.put, List.setIfInBounds_toArray, List.set_cons_zero, List.set_cons_succ, hd_]; rfl)) (Below.refl _ _) rfl (fun h => by cases h)
      · intro w0_ hF_ hd_ Q_ K_ hK_
        have hc0_ := (bcell hF_).1
        have hf0_ := (bcell hF_).2
        have hz0_ := hF_.size; (try simp at hz0_)
        (try simp at hc0_ hf0_)
        have : w.heap.size < w0_.heap.size := by omega
        have : w.heap.size + 1 < w0_.heap.size := by omega
        have : b6u3 < w0_.heap.size := by omega
        simp only [DepsR, Region.binds, Nat.zero_add, Nat.reduceAdd, true_implies, Bool.false_eq_true, false_implies, and_true, true_and, BEq.rfl, reduceCtorEq] at hd_
        go_simp
        exact hK_.out _ _ _ (by first | rfl | (simp only [Act.put, List.setIfInBounds_toArray, List.set_cons_zero, List.set_cons_succ, hd_]; done) | (simp only [Act.put, List.setIfInBounds_toArray, List.set_cons_zero, List.set_cons_succ, hd_]; rfl)) (Below.refl _ _) rfl (fun h => by cases h)
      · intro w0_ hF_ hd_ Q_ K_ hK_
        have hc0_ := (bcell hF_).1
        have hf0_ := (bcell hF_).2
        have hz0_ := hF_.size; (try simp at hz0_)
        (try simp at hc0_ hf0_)
        have : w.heap.size < w0_.heap.size := by omega
        have : w.heap.size + 1 < w0_.heap.size := by omega
        have : b6u3 < w0_.heap.size := by omega
        simp only [DepsR, Region.binds, Nat.zero_add, Nat.reduceAdd, true_implies, Bool.false_eq_true, false_implies, and_true, true_and, BEq.rfl, reduceCtorEq] at hd_
        go_simp
        exact hK_.out _ _ _ (by first | rfl | (simp only [Act.put, List.setIfInBounds_toArray, List.set_cons_zero, List.set_cons_succ, hd_]; done) | (simp only [Act.put, List.setIfInBounds_toArray, List.set_cons_zero, List.set_cons_succ, hd_]; rfl)) (Below.refl _ _) rfl (fun h => by cases h)
      · intro w0_ hF_ hd_ Q_ K_ hK_
        have hc0_ := (bcell hF_).1
        have hf0_ := (bcell hF_).2
        have hz0_ := hF_.size; (try simp at hz0_)
        (try simp at hc0_ hf0_)
        have : w.heap.size < w0_.heap.size := by omega
        have : w.heap.size + 1 < w0_.heap.size := by omega
        have : b6u3 < w0_.heap.size := by omega
        simp only [DepsR, Region.binds, Nat.zero_add, Nat.reduceAdd, true_implies, Bool.false_eq_true, false_implies, and_true, true_and, BEq.rfl, reduceCtorEq] at hd_
        go_simp
        refine (C1.out _).mono ?_
        rintro e_ w1_ ⟨rfl, hb_⟩
        exact hK_.out _ _ _ (by first | rfl | (simp only [Act.put, List.setIfInBounds_toArray, List.set_cons_zero, List.set_cons_succ, hd_]; done) | (simp only [Act.put, List.setIfInBounds_toArray, List.set_cons_zero, List.set_cons_succ, hd_]; rfl)) hb_ rfl (fun h => by cases h)
      · intro w0_ hF_ hd_ Q_ K_ hK_
        have hc0_ := (bcell hF_).1
        have hf0_ := (bcell hF_).2
        have hz0_ := hF_.size; (try simp at hz0_)
        (try simp at hc0_ hf0_)
        have : w.heap.size < w0_.heap.size := by omega
        have : w.heap.size + 1 < w0_.heap.size := by omega
        have : b6u3 < w0_.heap.size := by omega
        simp only [DepsR, Region.binds, Nat.zero_add, Nat.reduceAdd, true_implies, Bool.false_eq_true, false_implies, and_true, true_and, BEq.rfl, reduceCtorEq] at hd_
        go_simp
        exact hK_.out _ _ _ (by first | rfl | (simp only [Act.put, List.setIfInBounds_toArray, List.set_cons_zero, List.set_cons_succ, hd_]; done) | (simp only [Act.put, List.setIfInBounds_toArray, List.set_cons_zero, List.set_cons_succ, hd_]; rfl)) (Below.refl _ _) rfl (fun h => by cases h)
      · intro w0_ hF_ hd_ Q_ K_ hK_
        have hc0_ := (bcell hF_).1
        have hf0_ := (bcell hF_).2
        have hz0_ := hF_.size; (try simp at hz0_)
        (try simp at hc0_ hf0_)
        have : w.heap.size < w0_.heap.size := by omega
        have : w.heap.size + 1 < w0_.heap.size := by omega
        have : b6u3 < w0_.heap.size := by omega
        simp only [DepsR, Region.binds, Nat.zero_add, Nat.reduceAdd, true_implies, Bool.false_eq_true, false_implies, and_true, true_and, BEq.rfl, reduceCtorEq] at hd_
        go_simp
        exact hK_.out _ _ _ (by first | rfl | (simp only [Act.put, List.setIfInBounds_toArray, List.set_cons_zero, List.set_cons_succ, hd_]; done) | (simp only [Act.put, List.setIfInBounds_toArray, List.set_cons_zero, List.set_cons_succ, hd_]; rfl)) (Below.refl _ _) rfl (fun h => by cases h)
      · intro w0_ hF_ hd_ Q_ K_ hK_
        have hc0_ := (bcell hF_).1
        have hf0_ := (bcell hF_).2
        have hz0_ := hF_.size; (try simp at hz0_)
        (try simp at hc0_ hf0_)
        have : w.heap.size < w0_.heap.size := by omega
        have : w.heap.size + 1 < w0_.heap.size := by omega
        have : b6u3 < w0_.heap.size := by omega
        simp only [DepsR, Region.binds, Nat.zero_add, Nat.reduceAdd, true_implies, Bool.false_eq_true, false_implies, and_true, true_and, BEq.rfl, reduceCtorEq] at hd_
        go_simp
        refine (O4.out _).mono ?_
        rintro e_ w1_ ⟨rfl, hb_⟩
        exact hK_.out _ _ _ (by first | rfl | (simp only [Act.put, List.setIfInBounds_toArray, List.set_cons_zero, List.set_cons_succ, hd_]; done) | (simp only [Act.put, List.setIfInBounds_toArray, List.set_cons_zero, List.set_cons_succ, hd_]; rfl)) hb_ rfl (fun h => by cases h)
      · intro w0_ hF_ hd_ Q_ K_ hK_
        have hc0_ := (bcell hF_).1
        have hf0_ := (bcell hF_).2
        have hz0_ := hF_.size; (try simp at hz0_)
        (try simp at hc0_ hf0_)
        have : w.heap.size < w0_.heap.size := by omega
        have : w.heap.size + 1 < w0_.heap.size := by omega
        have : b6u3 < w0_.heap.size := by omega
        simp only [DepsR, Region.binds, Nat.zero_add, Nat.reduceAdd, true_implies, Bool.false_eq_true, false_implies, and_true, true_and, BEq.rfl, reduceCtorEq] at hd_
        go_simp
        refine (C2.out _).mono ?_
        rintro e_ w1_ ⟨rfl, hb_⟩
        exact hK_.out _ _ _ (by first | rfl | (simp only [Act.put, List.setIfInBounds_toArray, List.set_cons_zero, List.set_cons_succ, hd_]; done) | (simp only [Act.put, List.setIfInBounds_toArray, List.set_cons_zero, List.set_cons_succ, hd_]; rfl)) hb_ rfl (fun h => by cases h)
      · intro w0_ hF_ hd_ Q_ K_ hK_
        have hc0_ := (bcell hF_).1
        have hf0_ := (bcell hF_).2
        have hz0_ := hF_.size; (try simp at hz0_)
        (try simp at hc0_ hf0_)
        have : w.heap.size < w0_.heap.size := by omega
        have : w.heap.size + 1 < w0_.heap.size := by omega
        have : b6u3 < w0_.heap.size := by omega
        simp only [DepsR, Region.binds, Nat.zero_add, Nat.reduceAdd, true_implies, Bool.false_eq_true, false_implies, and_true, true_and, BEq.rfl, reduceCtorEq] at hd_
        go_simp
        exact hK_.out _ _ _ (by first | rfl | (simp only [Act.put, List.setIfInBounds_toArray, List.set_cons_zero, List.set_cons_succ, hd_]; done) | (simp only [Act.put, List.setIfInBounds_toArray, List.set_cons_zero, List.set_cons_succ, hd_]; rfl)) (Below.refl _ _) rfl (fun h => by cases h)
      · intro w0_ hF_ hd_ Q_ K_ hK_
        have hc0_ := (bcell hF_).1
        have hf0_ := (bcell hF_).2
        have hz0_ := hF_.size; (try simp at hz0_)
        (try simp at hc0_ hf0_)
        have : w.heap.size < w0_.heap.size := by omega
        have : w.heap.size + 1 < w0_.heap.size := by omega
        have : b6u3 < w0_.heap.size := by omega
        simp only [DepsR, Region.binds, Nat.zero_add, Nat.reduceAdd, true_implies, Bool.false_eq_true, false_implies, and_true, true_and, BEq.rfl, reduceCtorEq] at hd_
        go_simp
        exact hK_.out _ _ _ (by first | rfl | (simp only [Act.put, List.setIfInBounds_toArray, List.set_cons_zero, List.set_cons_succ, hd_]; done) | (simp only [Act.put, List.setIfInBounds_toArray, List.set_cons_zero, List.set_cons_succ, hd_]; rfl)) (Below.refl _ _) rfl (fun h => by cases h)
      · intro w0_ hF_ hd_ Q_ K_ hK_
        have hc0_ := (bcell hF_).1
        have hf0_ := (bcell hF_).2
        have hz0_ := hF_.size; (try simp at hz0_)
        (try simp at hc0_ hf0_)
        have : w.heap.size < w0_.heap.size := by omega
        have : w.heap.size + 1 < w0_.heap.size := by omega
        have : b6u3 < w0_.heap.size := by omega
        simp only [DepsR, Region.binds, Nat.zero_add, Nat.reduceAdd, true_implies, Bool.false_eq_true, false_implies, and_true, true_and, BEq.rfl, reduceCtorEq] at hd_
        go_simp
        refine (C3.out _).mono ?_
        rintro e_ w1_ ⟨rfl, hb_⟩
        exact hK_.out _ _ _ (by first | rfl | (simp only [Act.put, List.setIfInBounds_toArray, List.set_cons_zero, List.set_cons_succ, hd_]; done) | (simp only [Act.put, List.setIfInBounds_toArray, List.set_cons_zero, List.set_cons_succ, hd_]; rfl)) hb_ rfl (fun h => by cases h)
      · intro w0_ hF_ hd_ Q_ K_ hK_
        have hc0_ := (bcell hF_).1
        have hf0_ := (bcell hF_).2
        have hz0_ := hF_.size; (try simp at hz0_)
        (try simp at hc0_ hf0_)
        have : w.heap.size < w0_.heap.size := by omega
        have : w.heap.size + 1 < w0_.heap.size := by omega
        have : b6u3 < w0_.heap.size := by omega
        simp only [DepsR, Region.binds, Nat.zero_add, Nat.reduceAdd, true_implies, Bool.false_eq_true, false_implies, and_true, true_and, BEq.rfl, reduceCtorEq] at hd_
        go_simp
        exact hK_.out _ _ _ (by first | rfl | (simp only [Act.put, List.setIfInBounds_toArray, List.set_cons_zero, List.set_cons_succ, hd_]; done) | (simp only [Act.put, List.setIfInBounds_toArray, List.set_cons_zero, List.set_cons_succ, hd_]; rfl)) (Below.refl _ _) rfl (fun h => by cases h)
      · intro w0_ hF_ hd_ Q_ K_ hK_
        have hc0_ := (bcell hF_).1
        have hf0_ := (bcell hF_).2
        have hz0_ := hF_.size; (try simp at hz0_)
        (try simp at hc0_ hf0_)
        have : w.heap.size < w0_.heap.size := by omega
        have : w.heap.size + 1 < w0_.heap.size := by omega
        have : b6u3 < w0_.heap.size := by omega
        simp only [DepsR, Region.binds, Nat.zero_add, Nat.reduceAdd, true_implies, Bool.false_eq_true, false_implies, and_true, true_and, BEq.rfl, reduceCtorEq] at hd_
        go_simp
        refine (C4.out _).mono ?_
        rintro e_ w1_ ⟨rfl, hb_⟩
        exact hK_.out _ _ _ (by first | rfl | (simp only [Act.put, List.setIfInBounds_toArray, List.set_cons_zero, List.set_cons_succ, hd_]; done) | (simp only [Act.put, List.setIfInBounds_toArray, List.set_cons_zero, List.set_cons_succ, hd_]; rfl)) hb_ rfl (fun h => by cases h)
      · intro w0_ hF_ hd_ Q_ K_ hK_
        have hc0_ := (bcell hF_).1
        have hf0_ := (bcell hF_).2
        have hz0_ := hF_.size; (try simp at hz0_)
        (try simp at hc0_ hf0_)
        have : w.heap.size < w0_.heap.size := by omega
        have : w.heap.size + 1 < w0_.heap.size := by omega
        have : b6u3 < w0_.heap.size := by omega
        simp only [DepsR, Region.binds, Nat.zero_add, Nat.reduceAdd, true_implies, Bool.false_eq_true, false_implies, and_true, true_and, BEq.rfl, reduceCtorEq] at hd_
        go_simp
        exact hK_.out _ _ _ (by first | rfl | (simp only [Act.put, List.setIfInBounds_toArray, List.set_cons_zero, List.set_cons_succ, hd_]; done) | (simp only [Act.put, List.setIfInBounds_toArray, List.set_cons_zero, List.set_cons_succ, hd_]; rfl)) (Below.refl _ _) rfl (fun h => by cases h)
      · intro w0_ hF_ hd_ Q_ K_ hK_
        have hc0_ := (bcell hF_).1
        have hf0_ := (bcell hF_).2
        have hz0_ := hF_.size; (try simp at hz0_)
        (try simp at hc0_ hf0_)
        have : w.heap.size < w0_.heap.size := by omega
        have : w.heap.size + 1 < w0_.heap.size := by omega
        have : b6u3 < w0_.heap.size := by omega
        simp only [DepsR, Region.binds, Nat.zero_add, Nat.reduceAdd, true_implies, Bool.false_eq_true, false_implies, and_true, true_and, BEq.rfl, reduceCtorEq] at hd_
        go_simp
        exact hK_.out _ _ _ (by first | rfl | (simp only [Act.put, List.setIfInBounds_toArray, List.set_cons_zero, List.set_cons_succ, hd_]; done) | (simp only [Act.put, List.setIfInBounds_toArray, List.set_cons_zero, List.set_cons_succ, hd_]; rfl)) (Below.refl _ _) rfl (fun h => by cases h)
      · intro w0_ hF_ hd_ Q_ K_ hK_
        have hc0_ := (bcell hF_).1
        have hf0_ := (bcell hF_).2
        have hz0_ := hF_.size; (try simp at hz0_)
        (try simp at hc0_ hf0_)
        have : w.heap.size < w0_.heap.size := by omega
        have : w.heap.size + 1 < w0_.heap.size := by omega
        have : b6u3 < w0_.heap.size := by omega
        simp only [DepsR, Region.binds, Nat.zero_add, Nat.reduceAdd, true_implies, Bool.false_eq_true, false_implies, and_true, true_and, BEq.rfl, reduceCtorEq] at hd_
        go_simp
        exact hK_.out _ _ _ (by first | rfl | (simp only [Act.put, List.setIfInBounds_toArray, List.set_cons_zero, List.set_cons_succ, hd_]; done) | (simp only [Act.put, List.setIfInBounds_toArray, List.set_cons_zero, List.set_cons_succ, hd_]; rfl)) (Below.refl _ _) rfl (fun h => by cases h)
      · intro w0_ hF_ hd_ Q_ K_ hK_
        have hc0_ := (bcell hF_).1
        have hf0_ := (bcell hF_).2
        have hz0_ := hF_.size; (try simp at hz0_)
        (try simp at hc0_ hf0_)
        have : w.heap.size < w0_.heap.size := by omega
        have : w.heap.size + 1 < w0_.heap.size := by omega
        have : b6u3 < w0_.heap.size := by omega
        simp only [DepsR, Region.binds, Nat.zero_add, Nat.reduceAdd, true_implies, Bool.false_eq_true, false_implies, and_true, true_and, BEq.rfl, reduceCtorEq] at hd_
        go_simp
        exact hK_.out _ _ _ (by first | rfl | (simp only [Act.put, List.setIfInBounds_toArray, List.set_cons_zero, List.set_cons_succ, hd_]; done) | (simp only [Act.put, List.setIfInBounds_toArray, List.set_cons_zero, List.set_cons_succ, hd_]; rfl)) (Below.refl _ _) rfl (fun h => by cases h)
    · intro vs u4 hBu4 hA_ hD_
      simp only [AllR, Nat.zero_add, Nat.reduceAdd, and_true] at hA_
      obtain ⟨r0_, r1_, r2_, r3_, r4_, r5_, r6_, r7_, r8_, r9_, r10_, r11_, r12_, r13_, r14_, r15_, r16_, r17_, r18_, r19_, r20_, r21_, r22_, r23_, r24_, r25_, r26_, r27_, r28_, r29_, r30_, r31_, r32_, r33_, r34_, r35_, r36_, r37_, r38_, r39_, r40_, r41_, r42_, r43_, r44_, r45_, r46_, r47_, r48_, r49_, r50_, r51_⟩ := hA_
      clear hD_
      simp only [putAll, Act.put, List.setIfInBounds_toArray, List.set_cons_zero, List.set_cons_succ, Nat.zero_add, Nat.reduceAdd, r0_, r1_, r2_, r3_, r4_, r5_, r6_, r7_, r8_, r9_, r10_, r11_, r12_, r13_, r14_, r15_, r16_, r17_, r18_, r19_, r20_, r21_, r22_, r23_, r24_, r25_, r26_, r27_, r28_, r29_, r30_, r31_, r32_, r33_, r34_, r35_, r36_, r37_, r38_, r39_, r40_, r41_, r42_, r43_, r44_, r45_, r46_, r47_, r48_, r49_, r50_, r51_]
      clear r0_ r1_ r2_ r3_ r4_ r5_ r6_ r7_ r8_ r9_ r10_ r11_ r12_ r13_ r14_ r15_ r16_ r17_ r18_ r19_ r20_ r21_ r22_ r23_ r24_ r25_ r26_ r27_ r28_ r29_ r30_ r31_ r32_ r33_ r34_ r35_ r36_ r37_ r38_ r39_ r40_ r41_ r42_ r43_ r44_ r45_ r46_ r47_ r48_ r49_ r50_ r51_
      obtain ⟨hcu4, hfu4⟩ := bcell hBu4; (try simp only [World.size_drew, World.cell?_drew, World.frozen?_drew] at hcu4 hfu4); have hzu4 := hBu4.size; (try simp at hzu4)
      have : w.heap.size < u4.heap.size := by omega
      have : w.heap.size + 1 < u4.heap.size := by omega
      have : b6u3 < u4.heap.size := by omega
      go_wp2
      go_ret
      exact ⟨rfl, hB3.trans (hBu4.mono hB3.size)⟩

end Go.Proofs.Ytgigapmoooaaoaa
