/- The walk of the statement DecMuls: both numbers right. -/
import Derived.Test.YtanfgolelhmdhaaRefR
import Derived.Test.YtanfgolelhmdhaaDecSumsA
import Derived.Test.YtanfgolelhmdhaaDecL
import Derived.Test.YtanfgolelhmdhaaDecJ
namespace Go.Proofs.Ytanfgolelhmdhaa
set_option linter.unusedSimpArgs false
set_option linter.unusedVariables false
set_option linter.unnecessarySimpa false
open Go.RowKit

set_option maxRecDepth 100000 in
set_option maxHeartbeats 8000000 in
theorem muls_core (x y p q m : Int) (k1 k2 k3 : Nat) (hx : x.natAbs < topN) (hy : y.natAbs < topN)
    (A1 : Hid (∀ w, Calls Try.prog 24 #[ZV x, ZV y] w fun e w' => e = .returned (.tuple #[ZV p, errV k1]) ∧ Below w.heap.size w w'))
    (A2 : Hid (∀ w, Calls Try.prog 25 #[ZV x, ZV y] w fun e w' => e = .returned (.tuple #[ZV q, errV k2]) ∧ Below w.heap.size w w'))
    (A3 : Hid (∀ w, Calls Try.prog 26 #[ZV x, ZV y] w fun e w' => e = .returned (.tuple #[ZV m, errV k3]) ∧ Below w.heap.size w w'))
    (R1 : Hid (∀ W v v', IsNum W v (negZ x) x.natAbs → IsNum W v' (negZ y) y.natAbs → Calls Try.prog 27 #[v, v'] W (RetHeld (negZ p) p.natAbs k1 W)))
    (R2 : Hid (∀ W v v', IsNum W v (negZ x) x.natAbs → IsNum W v' (negZ y) y.natAbs → Calls Try.prog 28 #[v, v'] W (RetHeld (negZ q) q.natAbs k2 W)))
    (R3 : Hid (∀ W v v', IsNum W v (negZ x) x.natAbs → IsNum W v' (negZ y) y.natAbs → Calls Try.prog 29 #[v, v'] W (RetHeld (negZ m) m.natAbs k3 W)))
    (H1 : Hid (∀ W v, IsNum W v (negZ p) p.natAbs → Calls Try.prog 22 #[ZV p, errV k1, v, .int .i64 (k1 : Nat)] W (fun e w' => e = .returned (.bool true) ∧ Below W.heap.size W w')))
    (H2 : Hid (∀ W v, IsNum W v (negZ q) q.natAbs → Calls Try.prog 22 #[ZV q, errV k2, v, .int .i64 (k2 : Nat)] W (fun e w' => e = .returned (.bool true) ∧ Below W.heap.size W w')))
    (H3 : Hid (∀ W v, IsNum W v (negZ m) m.natAbs → Calls Try.prog 22 #[ZV m, errV k3, v, .int .i64 (k3 : Nat)] W (fun e w' => e = .returned (.bool true) ∧ Below W.heap.size W w')))
    (w : World) :
    Calls Try.prog 4 #[ZV x, ZV y] w fun e w' => e = .returned (.bool true) ∧ Below w.heap.size w w' := by
  have C0 := Lib.hid awake_t
  have m1 : x.natAbs < 340282366920938463463374607431768211456 := by rw [topN_eq] at hx; omega
  have m2 : y.natAbs < 340282366920938463463374607431768211456 := by rw [topN_eq] at hy; omega
  have RG1 : Hid (∀ w, Calls Try.prog 16 #[ZV x] w fun e w' => e = .returned (.bool true) ∧ Below w.heap.size w w') := by
    intro w; have k := rgood_any (negZ x) x.natAbs m1 w; rw [goodB_z, decide_eq_true hx] at k; exact k
  have RG2 : Hid (∀ w, Calls Try.prog 16 #[ZV y] w fun e w' => e = .returned (.bool true) ∧ Below w.heap.size w w') := by
    intro w; have k := rgood_any (negZ y) y.natAbs m2 w; rw [goodB_z, decide_eq_true hy] at k; exact k
  have O1 : Hid (∀ w, Calls Try.prog 19 #[ZV x] w (RetNum (negZ x) x.natAbs w)) := of_any (negZ x) x.natAbs m1
  have O2 : Hid (∀ w, Calls Try.prog 19 #[ZV y] w (RetNum (negZ y) y.natAbs w)) := of_any (negZ y) y.natAbs m2
  clear hx hy m1 m2
  go_enter Try.func4, Try.ntmps4
  go_wp2_with fail; refine (C0.out _).mono ?_; rintro ew1 w1 ⟨rfl, hbw1⟩; obtain ⟨hcw1, hfw1⟩ := bcell hbw1; (try simp only [World.size_drew, World.cell?_drew, World.frozen?_drew] at hcw1 hfw1); have hzw1 := hbw1.size; (try simp at hzw1); have : w.heap.size < w1.heap.size := (by omega); have : w.heap.size + 1 < w1.heap.size := (by omega); (try dsimp only)
  go_wp2_with fail; refine (A1.out _).mono ?_; rintro ew2 w2 ⟨rfl, hbw2⟩; obtain ⟨hcw2, hfw2⟩ := bcell hbw2; (try simp only [World.size_drew, World.cell?_drew, World.frozen?_drew] at hcw2 hfw2); have hzw2 := hbw2.size; (try simp at hzw2); have : w.heap.size < w2.heap.size := (by omega); have : w.heap.size + 1 < w2.heap.size := (by omega); (try dsimp only)
  go_wp2_with fail; refine (A2.out _).mono ?_; rintro ew3 w3 ⟨rfl, hbw3⟩; obtain ⟨hcw3, hfw3⟩ := bcell hbw3; (try simp only [World.size_drew, World.cell?_drew, World.frozen?_drew] at hcw3 hfw3); have hzw3 := hbw3.size; (try simp at hzw3); have : w.heap.size < w3.heap.size := (by omega); have : w.heap.size + 1 < w3.heap.size := (by omega); have : w2.heap.size < w3.heap.size := (by omega); (try dsimp only)
  go_wp2_with fail; refine (A3.out _).mono ?_; rintro ew4 w4 ⟨rfl, hbw4⟩; obtain ⟨hcw4, hfw4⟩ := bcell hbw4; (try simp only [World.size_drew, World.cell?_drew, World.frozen?_drew] at hcw4 hfw4); have hzw4 := hbw4.size; (try simp at hzw4); have : w.heap.size < w4.heap.size := (by omega); have : w.heap.size + 1 < w4.heap.size := (by omega); have : w2.heap.size < w4.heap.size := (by omega); have : w3.heap.size < w4.heap.size := (by omega); (try dsimp only)
  go_wp2_with fail; refine (RG1.out _).mono ?_; rintro ew5 w5 ⟨rfl, hbw5⟩; obtain ⟨hcw5, hfw5⟩ := bcell hbw5; (try simp only [World.size_drew, World.cell?_drew, World.frozen?_drew] at hcw5 hfw5); have hzw5 := hbw5.size; (try simp at hzw5); have : w.heap.size < w5.heap.size := (by omega); have : w.heap.size + 1 < w5.heap.size := (by omega); have : w2.heap.size < w5.heap.size := (by omega); have : w3.heap.size < w5.heap.size := (by omega); have : w4.heap.size < w5.heap.size := (by omega); (try dsimp only)
  go_wp2_with fail; refine (RG2.out _).mono ?_; rintro ew6 w6 ⟨rfl, hbw6⟩; obtain ⟨hcw6, hfw6⟩ := bcell hbw6; (try simp only [World.size_drew, World.cell?_drew, World.frozen?_drew] at hcw6 hfw6); have hzw6 := hbw6.size; (try simp at hzw6); have : w.heap.size < w6.heap.size := (by omega); have : w.heap.size + 1 < w6.heap.size := (by omega); have : w2.heap.size < w6.heap.size := (by omega); have : w3.heap.size < w6.heap.size := (by omega); have : w4.heap.size < w6.heap.size := (by omega); (try dsimp only)
  go_wp2_with fail
  refine wp_region_keep (t := fun j => match j with | 6 => 4 | 7 => 5 | k => k) (al := fun j => match j with | 4 => true | 5 => true | _ => false) (loud := fun j => match j with | 6 => true | 7 => true | _ => false)
    (R := fun j v u w' => match j with
      | 0 => v = ZV x
      | 1 => IsNum w' v (negZ x) x.natAbs
      | 2 => v = ZV y
      | 3 => IsNum w' v (negZ y) y.natAbs
      | 4 => NewR (w6.heap.size) 35 2 v w'
      | 5 => NewR (w6.heap.size) 35 2 v w'
      | 6 => HasNum u (negZ x) (x.natAbs) w'
      | 7 => HasNum u (negZ y) (y.natAbs) w'
      | _ => True) (by kernel_rfl) (by kernel_rfl) (by kernel_rfl) ?_ ?_ ?_ ?_
  · intro j v u w1_ w2_ h_ hF_ hB_
    (try dsimp only at h_ ⊢)
    split at h_ <;> first | exact h_ | exact NewR.on h_ hB_ | exact HasR.on h_ hB_ | exact IsNum.on h_ hB_ | exact HasNum.on h_ hB_ | exact RHeld.on h_ hB_ | trivial
  · intro j v u w1_ h1_ h_
    (try dsimp only at h1_ h_)
    split at h1_ <;> first | exact NewR.ptr h_ | (cases h1_)
  · intro vs
    simp only [putAll, Act.put, List.setIfInBounds_toArray, List.set_cons_zero, List.set_cons_succ, Nat.zero_add, Nat.reduceAdd]
    refine ⟨?_, ?_, ?_, ?_, ?_, ?_, ?_, ?_, trivial⟩
    · intro w0_ hF_ hd_ Q_ K_ hK_
      have hc0_ := (bcell hF_).1
      have hf0_ := (bcell hF_).2
      have hz0_ := hF_.size; (try simp at hz0_)
      (try simp at hc0_ hf0_)
      have : w.heap.size < w0_.heap.size := by omega
      have : w.heap.size + 1 < w0_.heap.size := by omega
      have : w2.heap.size < w0_.heap.size := by omega
      have : w3.heap.size < w0_.heap.size := by omega
      have : w4.heap.size < w0_.heap.size := by omega
      simp only [DepsR, Region.binds, Nat.zero_add, Nat.reduceAdd, true_implies, Bool.false_eq_true, false_implies, and_true, true_and, BEq.rfl, reduceCtorEq] at hd_
      go_simp
      exact hK_.out _ _ _ (by first | rfl | (simp only [Act.put, List.setIfInBounds_toArray, List.set_cons_zero, List.set_cons_succ, hd_]; done) | (simp only [Act.put, List.setIfInBounds_toArray, List.set_cons_zero, List.set_cons_succ, hd_]; rfl)) (Below.refl _ _) rfl (fun h => by cases h)
    · intro w0_ hF_ hd_ Q_ K_ hK_
      have hc0_ := (bcell hF_).1
      have hf0_ := (bcell hF_).2
      have hz0_ := hF_.size; (try simp at hz0_)
      (try simp at hc0_ hf0_)
      have : w.heap.size < w0_.heap.size := by omega
      have : w.heap.size + 1 < w0_.heap.size := by omega
      have : w2.heap.size < w0_.heap.size := by omega
      have : w3.heap.size < w0_.heap.size := by omega
      have : w4.heap.size < w0_.heap.size := by omega
      simp only [DepsR, Region.binds, Nat.zero_add, Nat.reduceAdd, true_implies, Bool.false_eq_true, false_implies, and_true, true_and, BEq.rfl, reduceCtorEq] at hd_
      go_simp
      refine (O1.out _).mono ?_
      rintro e_ w1_ ⟨v_, rfl, hr_, hb_⟩
      exact hK_.out _ _ _ (by first | rfl | (simp only [Act.put, List.setIfInBounds_toArray, List.set_cons_zero, List.set_cons_succ, hd_]; done) | (simp only [Act.put, List.setIfInBounds_toArray, List.set_cons_zero, List.set_cons_succ, hd_]; rfl)) hb_ hr_ (fun h => by cases h)
    · intro w0_ hF_ hd_ Q_ K_ hK_
      have hc0_ := (bcell hF_).1
      have hf0_ := (bcell hF_).2
      have hz0_ := hF_.size; (try simp at hz0_)
      (try simp at hc0_ hf0_)
      have : w.heap.size < w0_.heap.size := by omega
      have : w.heap.size + 1 < w0_.heap.size := by omega
      have : w2.heap.size < w0_.heap.size := by omega
      have : w3.heap.size < w0_.heap.size := by omega
      have : w4.heap.size < w0_.heap.size := by omega
      simp only [DepsR, Region.binds, Nat.zero_add, Nat.reduceAdd, true_implies, Bool.false_eq_true, false_implies, and_true, true_and, BEq.rfl, reduceCtorEq] at hd_
      go_simp
      exact hK_.out _ _ _ (by first | rfl | (simp only [Act.put, List.setIfInBounds_toArray, List.set_cons_zero, List.set_cons_succ, hd_]; done) | (simp only [Act.put, List.setIfInBounds_toArray, List.set_cons_zero, List.set_cons_succ, hd_]; rfl)) (Below.refl _ _) rfl (fun h => by cases h)
    · intro w0_ hF_ hd_ Q_ K_ hK_
      have hc0_ := (bcell hF_).1
      have hf0_ := (bcell hF_).2
      have hz0_ := hF_.size; (try simp at hz0_)
      (try simp at hc0_ hf0_)
      have : w.heap.size < w0_.heap.size := by omega
      have : w.heap.size + 1 < w0_.heap.size := by omega
      have : w2.heap.size < w0_.heap.size := by omega
      have : w3.heap.size < w0_.heap.size := by omega
      have : w4.heap.size < w0_.heap.size := by omega
      simp only [DepsR, Region.binds, Nat.zero_add, Nat.reduceAdd, true_implies, Bool.false_eq_true, false_implies, and_true, true_and, BEq.rfl, reduceCtorEq] at hd_
      go_simp
      refine (O2.out _).mono ?_
      rintro e_ w1_ ⟨v_, rfl, hr_, hb_⟩
      exact hK_.out _ _ _ (by first | rfl | (simp only [Act.put, List.setIfInBounds_toArray, List.set_cons_zero, List.set_cons_succ, hd_]; done) | (simp only [Act.put, List.setIfInBounds_toArray, List.set_cons_zero, List.set_cons_succ, hd_]; rfl)) hb_ hr_ (fun h => by cases h)
    · intro w0_ hF_ hd_ Q_ K_ hK_
      have hc0_ := (bcell hF_).1
      have hf0_ := (bcell hF_).2
      have hz0_ := hF_.size; (try simp at hz0_)
      (try simp at hc0_ hf0_)
      have : w.heap.size < w0_.heap.size := by omega
      have : w.heap.size + 1 < w0_.heap.size := by omega
      have : w2.heap.size < w0_.heap.size := by omega
      have : w3.heap.size < w0_.heap.size := by omega
      have : w4.heap.size < w0_.heap.size := by omega
      simp only [DepsR, Region.binds, Nat.zero_add, Nat.reduceAdd, true_implies, Bool.false_eq_true, false_implies, and_true, true_and, BEq.rfl, reduceCtorEq] at hd_
      go_simp
      exact hK_.out _ _ _ (by first | rfl | (simp only [Act.put, List.setIfInBounds_toArray, List.set_cons_zero, List.set_cons_succ, hd_]; done) | (simp only [Act.put, List.setIfInBounds_toArray, List.set_cons_zero, List.set_cons_succ, hd_]; rfl)) ((Below.refl _ _).alloc (Nat.le_refl _) _) ⟨_, _, rfl, by omega, rfl, Lies.fresh _ _ _⟩ (fun _ => ⟨_, rfl, Nat.le_refl _⟩)
    · intro w0_ hF_ hd_ Q_ K_ hK_
      have hc0_ := (bcell hF_).1
      have hf0_ := (bcell hF_).2
      have hz0_ := hF_.size; (try simp at hz0_)
      (try simp at hc0_ hf0_)
      have : w.heap.size < w0_.heap.size := by omega
      have : w.heap.size + 1 < w0_.heap.size := by omega
      have : w2.heap.size < w0_.heap.size := by omega
      have : w3.heap.size < w0_.heap.size := by omega
      have : w4.heap.size < w0_.heap.size := by omega
      simp only [DepsR, Region.binds, Nat.zero_add, Nat.reduceAdd, true_implies, Bool.false_eq_true, false_implies, and_true, true_and, BEq.rfl, reduceCtorEq] at hd_
      go_simp
      exact hK_.out _ _ _ (by first | rfl | (simp only [Act.put, List.setIfInBounds_toArray, List.set_cons_zero, List.set_cons_succ, hd_]; done) | (simp only [Act.put, List.setIfInBounds_toArray, List.set_cons_zero, List.set_cons_succ, hd_]; rfl)) ((Below.refl _ _).alloc (Nat.le_refl _) _) ⟨_, _, rfl, by omega, rfl, Lies.fresh _ _ _⟩ (fun _ => ⟨_, rfl, Nat.le_refl _⟩)
    · intro w0_ hF_ hd_ Q_ K_ hK_
      have hc0_ := (bcell hF_).1
      have hf0_ := (bcell hF_).2
      have hz0_ := hF_.size; (try simp at hz0_)
      (try simp at hc0_ hf0_)
      have : w.heap.size < w0_.heap.size := by omega
      have : w.heap.size + 1 < w0_.heap.size := by omega
      have : w2.heap.size < w0_.heap.size := by omega
      have : w3.heap.size < w0_.heap.size := by omega
      have : w4.heap.size < w0_.heap.size := by omega
      simp only [DepsR, Region.binds, Nat.zero_add, Nat.reduceAdd, true_implies, Bool.false_eq_true, false_implies, and_true, true_and, BEq.rfl, reduceCtorEq] at hd_
      obtain ⟨b_, cs_, hv_, hB_, hn_, hl_⟩ : NewR (w6.heap.size) 35 2 (vs 4) w0_ := by simp only [hd_]
      obtain ⟨A_, c_, hw_, hI_⟩ : IsNum w0_ (vs 1) (negZ x) (x.natAbs) := by simp only [hd_]
      obtain ⟨c0_, c1_, rfl⟩ := size2 hn_
      obtain ⟨k0_, k1_, f0_, f1_⟩ := hl_.cells2
      go_simp
      refine hK_.out _ undef _ (by first | rfl | (simp only [Act.put, List.setIfInBounds_toArray, List.set_cons_zero, List.set_cons_succ, hd_, hv_, hw_]; done) | (simp only [Act.put, List.setIfInBounds_toArray, List.set_cons_zero, List.set_cons_succ, hd_, hv_, hw_]; rfl)) ⟨?_, fun j_ hj_ hd2_ h_ => ?_⟩ ⟨b_, A_, c_, by simpa using hv_, hl_.put2 _ _, (hI_.far hl_ (by decide) 0 _).far (hl_.put 0 _) (by decide) 1 _⟩ (fun h => by cases h)
      · refine Below.setCell ?_ (by simp; omega) _; refine Below.setCell ?_ (by simp; omega) _; exact hF_
      · (try dsimp only at h_ hd2_ ⊢)
        split at h_ <;> first | exact h_ | exact ⟨b_, _, by simpa using hv_, hB_, rfl, hl_.put2 _ _⟩ | (exact NewR.far2 h_ hv_ (hd2_ rfl rfl (by decide)) _ _) | (exact HasR.far2 h_ hv_ (hd2_ rfl rfl (by decide)) _ _) | (exact HasNum.far2 h_ hl_ hv_ (hd2_ rfl rfl (by decide)) _ _) | (exact IsNum.put2 h_ hl_ _ _) | (exact RHeld.put2 h_ hl_ _ _) | trivial
    · intro w0_ hF_ hd_ Q_ K_ hK_
      have hc0_ := (bcell hF_).1
      have hf0_ := (bcell hF_).2
      have hz0_ := hF_.size; (try simp at hz0_)
      (try simp at hc0_ hf0_)
      have : w.heap.size < w0_.heap.size := by omega
      have : w.heap.size + 1 < w0_.heap.size := by omega
      have : w2.heap.size < w0_.heap.size := by omega
      have : w3.heap.size < w0_.heap.size := by omega
      have : w4.heap.size < w0_.heap.size := by omega
      simp only [DepsR, Region.binds, Nat.zero_add, Nat.reduceAdd, true_implies, Bool.false_eq_true, false_implies, and_true, true_and, BEq.rfl, reduceCtorEq] at hd_
      obtain ⟨b_, cs_, hv_, hB_, hn_, hl_⟩ : NewR (w6.heap.size) 35 2 (vs 5) w0_ := by simp only [hd_]
      obtain ⟨A_, c_, hw_, hI_⟩ : IsNum w0_ (vs 3) (negZ y) (y.natAbs) := by simp only [hd_]
      obtain ⟨c0_, c1_, rfl⟩ := size2 hn_
      obtain ⟨k0_, k1_, f0_, f1_⟩ := hl_.cells2
      go_simp
      refine hK_.out _ undef _ (by first | rfl | (simp only [Act.put, List.setIfInBounds_toArray, List.set_cons_zero, List.set_cons_succ, hd_, hv_, hw_]; done) | (simp only [Act.put, List.setIfInBounds_toArray, List.set_cons_zero, List.set_cons_succ, hd_, hv_, hw_]; rfl)) ⟨?_, fun j_ hj_ hd2_ h_ => ?_⟩ ⟨b_, A_, c_, by simpa using hv_, hl_.put2 _ _, (hI_.far hl_ (by decide) 0 _).far (hl_.put 0 _) (by decide) 1 _⟩ (fun h => by cases h)
      · refine Below.setCell ?_ (by simp; omega) _; refine Below.setCell ?_ (by simp; omega) _; exact hF_
      · (try dsimp only at h_ hd2_ ⊢)
        split at h_ <;> first | exact h_ | exact ⟨b_, _, by simpa using hv_, hB_, rfl, hl_.put2 _ _⟩ | (exact NewR.far2 h_ hv_ (hd2_ rfl rfl (by decide)) _ _) | (exact HasR.far2 h_ hv_ (hd2_ rfl rfl (by decide)) _ _) | (exact HasNum.far2 h_ hl_ hv_ (hd2_ rfl rfl (by decide)) _ _) | (exact IsNum.put2 h_ hl_ _ _) | (exact RHeld.put2 h_ hl_ _ _) | trivial
  · intro vs w7 hBw7 hA_ hD_
    simp only [AllR, Nat.zero_add, Nat.reduceAdd, and_true] at hA_
    obtain ⟨r0_, r1_, r2_, r3_, r4_, r5_, r6_, r7_⟩ := hA_
    obtain ⟨b4w7, A4w7, c4w7, e4_, l4, hI4w7⟩ := r6_
    obtain ⟨b_, cs_, e_, hb4, n_, l_⟩ := r4_
    obtain rfl : b4w7 = b_ := by have := e_.symm.trans e4_; simpa using this.symm
    clear e_ n_ l_
    obtain ⟨b5w7, A5w7, c5w7, e5_, l5, hI5w7⟩ := r7_
    obtain ⟨b_, cs_, e_, hb5, n_, l_⟩ := r5_
    obtain rfl : b5w7 = b_ := by have := e_.symm.trans e5_; simpa using this.symm
    clear e_ n_ l_
    have : b5w7 ≠ b4w7 := fun h_ => hD_ 5 4 rfl rfl (by decide) (by decide) (by decide) (by rw [e5_, e4_, h_])
    clear hD_
    simp only [putAll, Act.put, List.setIfInBounds_toArray, List.set_cons_zero, List.set_cons_succ, Nat.zero_add, Nat.reduceAdd, r0_, r2_, e4_, e5_]
    clear r0_ r2_ e4_ e5_
    obtain ⟨hcw7, hfw7⟩ := bcell hBw7; (try simp only [World.size_drew, World.cell?_drew, World.frozen?_drew] at hcw7 hfw7); have hzw7 := hBw7.size; (try simp at hzw7)
    have : w.heap.size < w7.heap.size := by omega
    have : w.heap.size + 1 < w7.heap.size := by omega
    have : w2.heap.size < w7.heap.size := by omega
    have : w3.heap.size < w7.heap.size := by omega
    have : w4.heap.size < w7.heap.size := by omega
    obtain ⟨k4_0, k4_1, f4_0, f4_1⟩ := l4.cells2
    have : b4w7 < w7.heap.size := l4.lt
    have HI4w7 := Lib.hid hI4w7; clear hI4w7
    obtain ⟨k5_0, k5_1, f5_0, f5_1⟩ := l5.cells2
    have : b5w7 < w7.heap.size := l5.lt
    have HI5w7 := Lib.hid hI5w7; clear hI5w7
    go_wp2_with fail
    refine (R1.out _ _ _ ⟨A4w7, c4w7, rfl, HI4w7.out⟩ ⟨A5w7, c5w7, rfl, HI5w7.out⟩).mono ?_
    rintro e8 w8 ⟨v8, rfl, ⟨A8, c8, rfl, hI8⟩, hbw8⟩
    obtain ⟨hcw8, hfw8⟩ := bcell hbw8
    have hzw8 := hbw8.size
    have HI8 := Lib.hid hI8; clear hI8
    have : w.heap.size < w8.heap.size := by omega
    have : w.heap.size + 1 < w8.heap.size := by omega
    have : w2.heap.size < w8.heap.size := by omega
    have : w3.heap.size < w8.heap.size := by omega
    have : w4.heap.size < w8.heap.size := by omega
    have : b4w7 < w8.heap.size := by omega
    have : b5w7 < w8.heap.size := by omega
    have hB78 : ∀ o : Obj, Below w7.heap.size w7 (w8.alloc o) := fun o => hbw8.alloc hbw8.size o
    have hB88 : ∀ o : Obj, Below w8.heap.size w8 (w8.alloc o) := fun o => (Below.refl _ _).alloc (Nat.le_refl _) o
    go_wp2_with fail
    refine (R2.out _ _ _ ⟨A4w7, c4w7, rfl, HI4w7.out.on (hB78 _)⟩ ⟨A5w7, c5w7, rfl, HI5w7.out.on (hB78 _)⟩).mono ?_
    rintro e9 w9 ⟨v9, rfl, ⟨A9, c9, rfl, hI9⟩, hbw9⟩
    obtain ⟨hcw9, hfw9⟩ := bcell hbw9
    have hzw9 := hbw9.size; (try simp at hzw9)
    have hB79 : Below w7.heap.size w7 w9 := below_on (hB78 _) hbw9
    have hB89 : Below w8.heap.size w8 w9 := below_on (hB88 _) hbw9
    have HI9 := Lib.hid hI9; clear hI9
    have : w.heap.size < w9.heap.size := by omega
    have : w.heap.size + 1 < w9.heap.size := by omega
    have : w2.heap.size < w9.heap.size := by omega
    have : w3.heap.size < w9.heap.size := by omega
    have : w4.heap.size < w9.heap.size := by omega
    have : b4w7 < w9.heap.size := by omega
    have : b5w7 < w9.heap.size := by omega
    have : w8.heap.size < w9.heap.size := by omega
    have hB7A : ∀ o : Obj, Below w7.heap.size w7 (w9.alloc o) := fun o => hB79.alloc hB79.size o
    have hB8A : ∀ o : Obj, Below w8.heap.size w8 (w9.alloc o) := fun o => hB89.alloc hB89.size o
    have hB9A : ∀ o : Obj, Below w9.heap.size w9 (w9.alloc o) := fun o => (Below.refl _ _).alloc (Nat.le_refl _) o
    go_wp2_with fail
    refine (R3.out _ _ _ ⟨A4w7, c4w7, rfl, HI4w7.out.on (hB7A _)⟩ ⟨A5w7, c5w7, rfl, HI5w7.out.on (hB7A _)⟩).mono ?_
    rintro e10 w10 ⟨v10, rfl, ⟨A10, c10, rfl, hI10⟩, hbw10⟩
    obtain ⟨hcw10, hfw10⟩ := bcell hbw10
    have hzw10 := hbw10.size; (try simp at hzw10)
    have hB7B : Below w7.heap.size w7 w10 := below_on (hB7A _) hbw10
    have hB8B : Below w8.heap.size w8 w10 := below_on (hB8A _) hbw10
    have hB9B : Below w9.heap.size w9 w10 := below_on (hB9A _) hbw10
    have hB8C : ∀ o : Obj, Below w8.heap.size w8 (w10.alloc o) := fun o => hB8B.alloc hB8B.size o
    have hB9C : ∀ o : Obj, Below w9.heap.size w9 (w10.alloc o) := fun o => hB9B.alloc hB9B.size o
    have hBAC : ∀ o : Obj, Below w10.heap.size w10 (w10.alloc o) := fun o => (Below.refl _ _).alloc (Nat.le_refl _) o
    have HI10 := Lib.hid hI10; clear hI10
    have : w.heap.size < w10.heap.size := by omega
    have : w.heap.size + 1 < w10.heap.size := by omega
    have : w2.heap.size < w10.heap.size := by omega
    have : w3.heap.size < w10.heap.size := by omega
    have : w4.heap.size < w10.heap.size := by omega
    have : w8.heap.size < w10.heap.size := by omega
    have : w9.heap.size < w10.heap.size := by omega
    go_wp2_with fail
    refine (H1.out _ _ ⟨A8, c8, rfl, HI8.out.on (hB8C _)⟩).mono ?_
    rintro e11 w11 ⟨rfl, hbw11⟩
    obtain ⟨hcw11, hfw11⟩ := bcell hbw11
    have hzw11 := hbw11.size; (try simp at hzw11)
    have hB9D : Below w9.heap.size w9 w11 := below_on (hB9C _) hbw11
    have hBAD : Below w10.heap.size w10 w11 := below_on (hBAC _) hbw11
    have : w2.heap.size < w11.heap.size := by omega
    have : w3.heap.size < w11.heap.size := by omega
    have : w4.heap.size < w11.heap.size := by omega
    have : w8.heap.size < w11.heap.size := by omega
    have : w9.heap.size < w11.heap.size := by omega
    have : w10.heap.size < w11.heap.size := by omega
    go_wp2_with fail
    refine (H2.out _ _ ⟨A9, c9, rfl, HI9.out.on hB9D⟩).mono ?_
    rintro e12 w12 ⟨rfl, hbw12⟩
    obtain ⟨hcw12, hfw12⟩ := bcell hbw12
    have hzw12 := hbw12.size; (try simp at hzw12)
    have hBAE : Below w10.heap.size w10 w12 := below_on hBAD hbw12
    have : w4.heap.size < w12.heap.size := by omega
    have : w10.heap.size < w12.heap.size := by omega
    go_wp2_with fail
    refine (H3.out _ _ ⟨A10, c10, rfl, HI10.out.on hBAE⟩).mono ?_
    rintro e13 w13 ⟨rfl, hbw13⟩
    go_wp2
    go_ret
    refine ⟨rfl, ?_⟩
    repeat (first | (with_reducible exact Below.refl _ _) | (with_reducible refine Below.drew ?_) | (refine Below.setCell ?_ (by first | exact Nat.le_refl _ | (simp; done) | (simp; omega) | omega) _) | (refine Below.alloc ?_ (by first | exact Nat.le_refl _ | (simp; done) | (simp; omega) | omega) _) | (refine Below.trans ?_ (Below.mono (by assumption) (by first | exact Nat.le_refl _ | (simp; done) | (simp; omega) | omega))))
end Go.Proofs.Ytanfgolelhmdhaa
