/- The walk of the statement DecPows. -/
import Derived.Test.YtanfgolelhmdhaaRefU
import Derived.Test.YtanfgolelhmdhaaRefV
import Derived.Test.YtanfgolelhmdhaaRefW
namespace Go.Proofs.Ytanfgolelhmdhaa
set_option linter.unusedSimpArgs false
set_option linter.unusedVariables false
set_option linter.unnecessarySimpa false
open Go.RowKit
theorem rpow_z {v v' : Value} {x y : Int} {w : World} (h : IsZ w v x) (h' : IsZ w v' y) (hx : x.natAbs < topN) (hy : y.natAbs < topN) :
    Calls Try.prog 31 #[v, v'] w (RetHeld (negZ (powR x y).1) (powR x y).1.natAbs (powR x y).2 w) := by
  by_cases hc : y = truncZ y ∧ ¬ (x = 0 ∧ negZ y = true) ∧ whB false (y.natAbs / 1000000) = true ∧ y.natAbs / 1000000 ≤ 1000
  · have e : powR x y = if negZ y = true then powD x (y.natAbs / 1000000) else powN x (y.natAbs / 1000000) := by
      unfold powR; rw [if_pos hc.1, if_neg hc.2.1, if_pos hc.2.2]
    rw [e]
    cases hn : negZ y
    · rw [if_neg (by simp)]
      by_cases hx0 : x = 0
      · exact rpow_pos0 h h' hx hy hc.1 hx0 hc.2.2.2 hn
      · exact rpow_pos h h' hx hy hc.1 hx0 hc.2.2.2 hn
    · rw [if_pos rfl]
      exact rpow_neg h h' hx hy hc.1 (fun e => hc.2.1 ⟨e, hn⟩) hc.2.2.2 hn
  · exact rpow_early h h' hx hy hc
def okR (r : Int × Nat) : Prop := (r.2 = 0 ∧ r.1.natAbs < topN) ∨ (r.1 = 0 ∧ r.2 ≠ 0 ∧ r.2 ≤ 25)
theorem okR_fit (z : Int) : okR (fitR z) := by
  by_cases h : z.natAbs < topN
  · rw [fitR_0 h]; exact .inl ⟨rfl, h⟩
  · rw [fitR_2 h]; exact .inr ⟨rfl, by decide, by decide⟩
theorem okR_N (x : Int) (k : Nat) : okR (powN x k) := by
  cases k with
  | zero => exact .inl ⟨rfl, powN_top x 0⟩
  | succ k =>
    show okR (if (powN x k).2 = 0 then fitR (((powN x k).1 * x).tdiv 1000000) else (0, 2))
    split
    · exact okR_fit _
    · exact .inr ⟨rfl, by decide, by decide⟩
theorem okR_D (x : Int) (k : Nat) : okR (powD x k) := by
  unfold powD
  split
  · split
    · exact .inr ⟨rfl, by decide, by decide⟩
    · exact okR_fit _
  · exact .inr ⟨rfl, by decide, by decide⟩
theorem okR_pow (x y : Int) : okR (powR x y) := by
  unfold powR
  split
  · split
    · exact .inr ⟨rfl, by decide, by decide⟩
    · split
      · split
        · exact okR_D _ _
        · exact okR_N _ _
      · exact .inr ⟨rfl, by decide, by decide⟩
  · exact .inr ⟨rfl, by decide, by decide⟩
theorem okR_held {r : Int × Nat} (hr : okR r) {v : Value} {w : World} (h : IsNum w v (negZ r.1) r.1.natAbs) :
    Calls Try.prog 22 #[ZV r.1, errV r.2, v, .int .i64 (r.2 : Nat)] w fun e w' => e = .returned (.bool true) ∧ Below w.heap.size w w' := by
  rcases hr with ⟨h2, h1⟩ | ⟨h1, h2, h3⟩
  · rw [h2]; exact lheld_ok h h1
  · rw [h1]; exact lheld_err h h2 h3

set_option maxRecDepth 100000 in
set_option maxHeartbeats 8000000 in
theorem pows_ok (x y : Int) (hx : x.natAbs < topN) (hy : y.natAbs < topN) (w : World) :
    Calls Try.prog 5 #[ZV x, ZV y] w fun e w' => e = .returned (.bool true) ∧ Below w.heap.size w w' := by
  have C0 := Lib.hid awake_t
  have A1 : Hid (∀ w, Calls Try.prog 30 #[ZV x, ZV y] w fun e w' => e = .returned (.tuple #[ZV (powR x y).1, errV (powR x y).2]) ∧ Below w.heap.size w w') := pow_z x y hx hy
  have m1 : x.natAbs < 340282366920938463463374607431768211456 := by rw [topN_eq] at hx; omega
  have m2 : y.natAbs < 340282366920938463463374607431768211456 := by rw [topN_eq] at hy; omega
  have RG1 : Hid (∀ w, Calls Try.prog 16 #[ZV x] w fun e w' => e = .returned (.bool true) ∧ Below w.heap.size w w') := by
    intro w; have k := rgood_any (negZ x) x.natAbs m1 w; rw [goodB_z, decide_eq_true hx] at k; exact k
  have RG2 : Hid (∀ w, Calls Try.prog 16 #[ZV y] w fun e w' => e = .returned (.bool true) ∧ Below w.heap.size w w') := by
    intro w; have k := rgood_any (negZ y) y.natAbs m2 w; rw [goodB_z, decide_eq_true hy] at k; exact k
  have O1 : Hid (∀ w, Calls Try.prog 19 #[ZV x] w (RetNum (negZ x) x.natAbs w)) := of_any (negZ x) x.natAbs m1
  have O2 : Hid (∀ w, Calls Try.prog 19 #[ZV y] w (RetNum (negZ y) y.natAbs w)) := of_any (negZ y) y.natAbs m2
  have RP : Hid (∀ W v v', IsNum W v (negZ x) x.natAbs → IsNum W v' (negZ y) y.natAbs → Calls Try.prog 31 #[v, v'] W (RetHeld (negZ (powR x y).1) (powR x y).1.natAbs (powR x y).2 W)) :=
    fun W v v' h h' => rpow_z h h' hx hy
  have H1 : Hid (∀ W v, IsNum W v (negZ (powR x y).1) (powR x y).1.natAbs → Calls Try.prog 22 #[ZV (powR x y).1, errV (powR x y).2, v, .int .i64 ((powR x y).2 : Nat)] W (fun e w' => e = .returned (.bool true) ∧ Below W.heap.size W w')) := fun W v h => okR_held (okR_pow x y) h
  clear hx hy m1 m2
  generalize (powR x y).1 = p at *
  generalize (powR x y).2 = k1 at *
  go_enter Try.func5, Try.ntmps5
  go_wp2_with fail; refine (C0.out _).mono ?_; rintro ew1 w1 ⟨rfl, hbw1⟩; obtain ⟨hcw1, hfw1⟩ := bcell hbw1; (try simp only [World.size_drew, World.cell?_drew, World.frozen?_drew] at hcw1 hfw1); have hzw1 := hbw1.size; (try simp at hzw1); have : w.heap.size < w1.heap.size := (by omega); have : w.heap.size + 1 < w1.heap.size := (by omega); (try dsimp only)
  go_wp2_with fail; refine (A1.out _).mono ?_; rintro ew2 w2 ⟨rfl, hbw2⟩; obtain ⟨hcw2, hfw2⟩ := bcell hbw2; (try simp only [World.size_drew, World.cell?_drew, World.frozen?_drew] at hcw2 hfw2); have hzw2 := hbw2.size; (try simp at hzw2); have : w.heap.size < w2.heap.size := (by omega); have : w.heap.size + 1 < w2.heap.size := (by omega); (try dsimp only)
  go_wp2_with fail; refine (RG1.out _).mono ?_; rintro ew3 w3 ⟨rfl, hbw3⟩; obtain ⟨hcw3, hfw3⟩ := bcell hbw3; (try simp only [World.size_drew, World.cell?_drew, World.frozen?_drew] at hcw3 hfw3); have hzw3 := hbw3.size; (try simp at hzw3); have : w.heap.size < w3.heap.size := (by omega); have : w.heap.size + 1 < w3.heap.size := (by omega); have : w2.heap.size < w3.heap.size := (by omega); (try dsimp only)
  go_wp2_with fail; refine (RG2.out _).mono ?_; rintro ew4 w4 ⟨rfl, hbw4⟩; obtain ⟨hcw4, hfw4⟩ := bcell hbw4; (try simp only [World.size_drew, World.cell?_drew, World.frozen?_drew] at hcw4 hfw4); have hzw4 := hbw4.size; (try simp at hzw4); have : w.heap.size < w4.heap.size := (by omega); have : w.heap.size + 1 < w4.heap.size := (by omega); have : w2.heap.size < w4.heap.size := (by omega); (try dsimp only)
  go_wp2_with fail
  refine wp_region_keep (t := fun j => match j with | 9 => 8 | k => k) (al := fun j => match j with | 8 => true | _ => false) (loud := fun j => match j with | 9 => true | _ => false)
    (R := fun j v u w' => match j with
      | 0 => v = ZV x
      | 1 => IsNum w' v (negZ x) x.natAbs
      | 2 => v = ZV y
      | 3 => IsNum w' v (negZ y) y.natAbs
      | 4 => RHeld v (negZ p) p.natAbs k1 w'
      | 5 => RHeld v (negZ p) p.natAbs k1 w'
      | 6 => IsNum w' v (negZ p) p.natAbs
      | 7 => v = .int .i64 (k1 : Int)
      | 8 => NewR (w4.heap.size) 35 2 v w'
      | 9 => HasNum u (negZ p) (p.natAbs) w'
      | 10 => v = .int .i64 (k1 : Int)
      | _ => True) (by kernel_rfl) (by kernel_rfl) (by kernel_rfl) ?_ ?_ ?_ ?_
  · intro j v u w1_ w2_ h_ hF_ hB_
    (try dsimp only at h_ ⊢)
    split at h_ <;> first | exact h_ | exact NewR.on h_ hB_ | exact HasR.on h_ hB_ | exact IsNum.on h_ hB_ | exact HasNum.on h_ hB_ | exact RHeld.on h_ hB_ | trivial
  · intro j v u w1_ h1_ h_
    (try dsimp only at h1_ h_)
    split at h1_ <;> first | exact NewR.ptr h_ | (cases h1_)
  · intro vs
    simp only [putAll, Act.put, List.setIfInBounds_toArray, List.set_cons_zero, List.set_cons_succ, Nat.zero_add, Nat.reduceAdd]
    refine ⟨?_, ?_, ?_, ?_, ?_, ?_, ?_, ?_, ?_, ?_, ?_, trivial⟩
    · intro w0_ hF_ hd_ Q_ K_ hK_
      have hc0_ := (bcell hF_).1
      have hf0_ := (bcell hF_).2
      have hz0_ := hF_.size; (try simp at hz0_)
      (try simp at hc0_ hf0_)
      have : w.heap.size < w0_.heap.size := by omega
      have : w.heap.size + 1 < w0_.heap.size := by omega
      have : w2.heap.size < w0_.heap.size := by omega
      simp only [DepsR, Region.binds, Nat.zero_add, Nat.reduceAdd, true_implies, Bool.false_eq_true, false_implies, and_true, true_and, BEq.rfl, reduceCtorEq] at hd_
      go_simp
      exact hK_.out _ _ _ (by first | rfl | (simp only [Act.put, List.setIfInBounds_toArray, List.set_cons_zero, List.set_cons_succ, hd_]; done) | (simp only [Act.put, List.setIfInBounds_toArray, List.set_cons_zero, List.set_cons_succ, hd_]; rfl)) (Below.refl _ _) rfl (fun h => by cases h)
    · intro w0_ hF_ hd_ Q_ K_ hK_
      have hc0_ := (bcell hF_).1
      have hf0_ := (bcell hF_).2
      have hz0_ := hF_.size; (try simp at hz0_)
      (try simp at hc0_ hf0_)
      have : w.heap.size < w0_.heap.size := by omega
      have : w.heap.size + 1 < w0_.heap.size := by omega
      have : w2.heap.size < w0_.heap.size := by omega
      simp only [DepsR, Region.binds, Nat.zero_add, Nat.reduceAdd, true_implies, Bool.false_eq_true, false_implies, and_true, true_and, BEq.rfl, reduceCtorEq] at hd_
      go_simp
      refine (O1.out _).mono ?_
      rintro e_ w1_ ⟨v_, rfl, hr_, hb_⟩
      exact hK_.out _ _ _ (by first | rfl | (simp only [Act.put, List.setIfInBounds_toArray, List.set_cons_zero, List.set_cons_succ, hd_]; done) | (simp only [Act.put, List.setIfInBounds_toArray, List.set_cons_zero, List.set_cons_succ, hd_]; rfl)) hb_ hr_ (fun h => by cases h)
    · intro w0_ hF_ hd_ Q_ K_ hK_
      have hc0_ := (bcell hF_).1
      have hf0_ := (bcell hF_).2
      have hz0_ := hF_.size; (try simp at hz0_)
      (try simp at hc0_ hf0_)
      have : w.heap.size < w0_.heap.size := by omega
      have : w.heap.size + 1 < w0_.heap.size := by omega
      have : w2.heap.size < w0_.heap.size := by omega
      simp only [DepsR, Region.binds, Nat.zero_add, Nat.reduceAdd, true_implies, Bool.false_eq_true, false_implies, and_true, true_and, BEq.rfl, reduceCtorEq] at hd_
      go_simp
      exact hK_.out _ _ _ (by first | rfl | (simp only [Act.put, List.setIfInBounds_toArray, List.set_cons_zero, List.set_cons_succ, hd_]; done) | (simp only [Act.put, List.setIfInBounds_toArray, List.set_cons_zero, List.set_cons_succ, hd_]; rfl)) (Below.refl _ _) rfl (fun h => by cases h)
    · intro w0_ hF_ hd_ Q_ K_ hK_
      have hc0_ := (bcell hF_).1
      have hf0_ := (bcell hF_).2
      have hz0_ := hF_.size; (try simp at hz0_)
      (try simp at hc0_ hf0_)
      have : w.heap.size < w0_.heap.size := by omega
      have : w.heap.size + 1 < w0_.heap.size := by omega
      have : w2.heap.size < w0_.heap.size := by omega
      simp only [DepsR, Region.binds, Nat.zero_add, Nat.reduceAdd, true_implies, Bool.false_eq_true, false_implies, and_true, true_and, BEq.rfl, reduceCtorEq] at hd_
      go_simp
      refine (O2.out _).mono ?_
      rintro e_ w1_ ⟨v_, rfl, hr_, hb_⟩
      exact hK_.out _ _ _ (by first | rfl | (simp only [Act.put, List.setIfInBounds_toArray, List.set_cons_zero, List.set_cons_succ, hd_]; done) | (simp only [Act.put, List.setIfInBounds_toArray, List.set_cons_zero, List.set_cons_succ, hd_]; rfl)) hb_ hr_ (fun h => by cases h)
    · intro w0_ hF_ hd_ Q_ K_ hK_
      have hc0_ := (bcell hF_).1
      have hf0_ := (bcell hF_).2
      have hz0_ := hF_.size; (try simp at hz0_)
      (try simp at hc0_ hf0_)
      have : w.heap.size < w0_.heap.size := by omega
      have : w.heap.size + 1 < w0_.heap.size := by omega
      have : w2.heap.size < w0_.heap.size := by omega
      simp only [DepsR, Region.binds, Nat.zero_add, Nat.reduceAdd, true_implies, Bool.false_eq_true, false_implies, and_true, true_and, BEq.rfl, reduceCtorEq] at hd_
      go_simp
      refine (RP.out _ _ _ (by first | exact hd_.1 | exact hd_.2.1 | exact hd_.2 | exact hd_.2.2.1) (by first | exact hd_.2.1 | exact hd_.2 | exact hd_.1 | exact hd_.2.2.1)).mono ?_
      rintro e_ w1_ ⟨v_, rfl, hr_, hb_⟩
      exact hK_.out _ _ _ (by first | rfl | (simp only [Act.put, List.setIfInBounds_toArray, List.set_cons_zero, List.set_cons_succ, hd_]; done)) hb_ ⟨v_, rfl, hr_⟩ (fun h => by cases h)
    · intro w0_ hF_ hd_ Q_ K_ hK_
      have hc0_ := (bcell hF_).1
      have hf0_ := (bcell hF_).2
      have hz0_ := hF_.size; (try simp at hz0_)
      (try simp at hc0_ hf0_)
      have : w.heap.size < w0_.heap.size := by omega
      have : w.heap.size + 1 < w0_.heap.size := by omega
      have : w2.heap.size < w0_.heap.size := by omega
      simp only [DepsR, Region.binds, Nat.zero_add, Nat.reduceAdd, true_implies, Bool.false_eq_true, false_implies, and_true, true_and, BEq.rfl, reduceCtorEq] at hd_
      obtain ⟨v_, hv_, hr_⟩ := hd_
      go_simp
      exact hK_.out _ _ _ (by first | rfl | (simp only [Act.put, List.setIfInBounds_toArray, List.set_cons_zero, List.set_cons_succ, hv_]; done)) (Below.refl _ _) ⟨v_, rfl, hr_⟩ (fun h => by cases h)
    · intro w0_ hF_ hd_ Q_ K_ hK_
      have hc0_ := (bcell hF_).1
      have hf0_ := (bcell hF_).2
      have hz0_ := hF_.size; (try simp at hz0_)
      (try simp at hc0_ hf0_)
      have : w.heap.size < w0_.heap.size := by omega
      have : w.heap.size + 1 < w0_.heap.size := by omega
      have : w2.heap.size < w0_.heap.size := by omega
      simp only [DepsR, Region.binds, Nat.zero_add, Nat.reduceAdd, true_implies, Bool.false_eq_true, false_implies, and_true, true_and, BEq.rfl, reduceCtorEq] at hd_
      obtain ⟨v_, hv_, hr_⟩ := hd_
      go_simp
      exact hK_.out _ _ _ (by first | rfl | (simp only [Act.put, List.setIfInBounds_toArray, List.set_cons_zero, List.set_cons_succ, hv_]; done)) (Below.refl _ _) hr_ (fun h => by cases h)
    · intro w0_ hF_ hd_ Q_ K_ hK_
      have hc0_ := (bcell hF_).1
      have hf0_ := (bcell hF_).2
      have hz0_ := hF_.size; (try simp at hz0_)
      (try simp at hc0_ hf0_)
      have : w.heap.size < w0_.heap.size := by omega
      have : w.heap.size + 1 < w0_.heap.size := by omega
      have : w2.heap.size < w0_.heap.size := by omega
      simp only [DepsR, Region.binds, Nat.zero_add, Nat.reduceAdd, true_implies, Bool.false_eq_true, false_implies, and_true, true_and, BEq.rfl, reduceCtorEq] at hd_
      obtain ⟨v_, hv_, hr_⟩ := hd_.1
      go_simp
      exact hK_.out _ _ _ (by first | rfl | (simp only [Act.put, List.setIfInBounds_toArray, List.set_cons_zero, List.set_cons_succ, hv_]; done)) (Below.refl _ _) rfl (fun h => by cases h)
    · intro w0_ hF_ hd_ Q_ K_ hK_
      have hc0_ := (bcell hF_).1
      have hf0_ := (bcell hF_).2
      have hz0_ := hF_.size; (try simp at hz0_)
      (try simp at hc0_ hf0_)
      have : w.heap.size < w0_.heap.size := by omega
      have : w.heap.size + 1 < w0_.heap.size := by omega
      have : w2.heap.size < w0_.heap.size := by omega
      simp only [DepsR, Region.binds, Nat.zero_add, Nat.reduceAdd, true_implies, Bool.false_eq_true, false_implies, and_true, true_and, BEq.rfl, reduceCtorEq] at hd_
      go_simp
      exact hK_.out _ _ _ (by first | rfl | (simp only [Act.put, List.setIfInBounds_toArray, List.set_cons_zero, List.set_cons_succ, hd_]; done) | (simp only [Act.put, List.setIfInBounds_toArray, List.set_cons_zero, List.set_cons_succ, hd_]; rfl)) ((Below.refl _ _).alloc (Nat.le_refl _) _) ⟨_, _, rfl, by omega, rfl, Lies.fresh _ _ _⟩ (fun _ => ⟨_, rfl, Nat.le_refl _⟩)
    · intro w0_ hF_ hd_ Q_ K_ hK_
      have hc0_ := (bcell hF_).1
      have hf0_ := (bcell hF_).2
      have hz0_ := hF_.size; (try simp at hz0_)
      (try simp at hc0_ hf0_)
      have : w.heap.size < w0_.heap.size := by omega
      have : w.heap.size + 1 < w0_.heap.size := by omega
      have : w2.heap.size < w0_.heap.size := by omega
      simp only [DepsR, Region.binds, Nat.zero_add, Nat.reduceAdd, true_implies, Bool.false_eq_true, false_implies, and_true, true_and, BEq.rfl, reduceCtorEq] at hd_
      obtain ⟨b_, cs_, hv_, hB_, hn_, hl_⟩ : NewR (w4.heap.size) 35 2 (vs 8) w0_ := by simp only [hd_]
      obtain ⟨A_, c_, hw_, hI_⟩ : IsNum w0_ (vs 6) (negZ p) (p.natAbs) := by simp only [hd_]
      obtain ⟨c0_, c1_, rfl⟩ := size2 hn_
      obtain ⟨k0_, k1_, f0_, f1_⟩ := hl_.cells2
      go_simp
      refine hK_.out _ undef _ (by first | rfl | (simp only [Act.put, List.setIfInBounds_toArray, List.set_cons_zero, List.set_cons_succ, hd_, hv_, hw_]; done) | (simp only [Act.put, List.setIfInBounds_toArray, List.set_cons_zero, List.set_cons_succ, hd_, hv_, hw_]; rfl)) ⟨?_, fun j_ hj_ hd2_ h_ => ?_⟩ ⟨b_, A_, c_, by simpa using hv_, hl_.put2 _ _, (hI_.far hl_ (by decide) 0 _).far (hl_.put 0 _) (by decide) 1 _⟩ (fun h => by cases h)
      · refine Below.setCell ?_ (by simp; omega) _; refine Below.setCell ?_ (by simp; omega) _; exact hF_
      · (try dsimp only at h_ hd2_ ⊢)
        split at h_ <;> first | exact h_ | exact ⟨b_, _, by simpa using hv_, hB_, rfl, hl_.put2 _ _⟩ | (exact NewR.far2 h_ hv_ (hd2_ rfl rfl (by decide)) _ _) | (exact HasR.far2 h_ hv_ (hd2_ rfl rfl (by decide)) _ _) | (exact HasNum.far2 h_ hl_ hv_ (hd2_ rfl rfl (by decide)) _ _) | (exact IsNum.put2 h_ hl_ _ _) | (exact RHeld.put2 h_ hl_ _ _) | trivial
    · intro w0_ hF_ hd_ Q_ K_ hK_
      have hc0_ := (bcell hF_).1
      have hf0_ := (bcell hF_).2
      have hz0_ := hF_.size; (try simp at hz0_)
      (try simp at hc0_ hf0_)
      have : w.heap.size < w0_.heap.size := by omega
      have : w.heap.size + 1 < w0_.heap.size := by omega
      have : w2.heap.size < w0_.heap.size := by omega
      simp only [DepsR, Region.binds, Nat.zero_add, Nat.reduceAdd, true_implies, Bool.false_eq_true, false_implies, and_true, true_and, BEq.rfl, reduceCtorEq] at hd_
      go_simp
      exact hK_.out _ _ _ (by first | rfl | (simp only [Act.put, List.setIfInBounds_toArray, List.set_cons_zero, List.set_cons_succ, hd_]; done) | (simp only [Act.put, List.setIfInBounds_toArray, List.set_cons_zero, List.set_cons_succ, hd_]; rfl)) (Below.refl _ _) rfl (fun h => by cases h)
  · intro vs w5 hBw5 hA_ hD_
    simp only [AllR, Nat.zero_add, Nat.reduceAdd, and_true] at hA_
    obtain ⟨r0_, r1_, r2_, r3_, r4_, r5_, r6_, r7_, r8_, r9_, r10_⟩ := hA_
    obtain ⟨b8w5, A8w5, c8w5, e8_, l8, hI8w5⟩ := r9_
    obtain ⟨b_, cs_, e_, hb8, n_, l_⟩ := r8_
    obtain rfl : b8w5 = b_ := by have := e_.symm.trans e8_; simpa using this.symm
    clear e_ n_ l_
    clear hD_
    simp only [putAll, Act.put, List.setIfInBounds_toArray, List.set_cons_zero, List.set_cons_succ, Nat.zero_add, Nat.reduceAdd, r0_, r2_, r7_, r10_, e8_]
    clear r0_ r2_ r7_ r10_ e8_
    obtain ⟨hcw5, hfw5⟩ := bcell hBw5; (try simp only [World.size_drew, World.cell?_drew, World.frozen?_drew] at hcw5 hfw5); have hzw5 := hBw5.size; (try simp at hzw5)
    have : w.heap.size < w5.heap.size := by omega
    have : w.heap.size + 1 < w5.heap.size := by omega
    have : w2.heap.size < w5.heap.size := by omega
    obtain ⟨k8_0, k8_1, f8_0, f8_1⟩ := l8.cells2
    have : b8w5 < w5.heap.size := l8.lt
    have HI8w5 := Lib.hid hI8w5; clear hI8w5
    go_wp2_with fail
    refine (H1.out _ _ ⟨A8w5, c8w5, rfl, HI8w5.out⟩).mono ?_
    rintro e6 w6 ⟨rfl, hbw6⟩
    go_wp2
    go_ret
    refine ⟨rfl, ?_⟩
    repeat (first | (with_reducible exact Below.refl _ _) | (with_reducible refine Below.drew ?_) | (refine Below.setCell ?_ (by first | exact Nat.le_refl _ | (simp; done) | (simp; omega) | omega) _) | (refine Below.alloc ?_ (by first | exact Nat.le_refl _ | (simp; done) | (simp; omega) | omega) _) | (refine Below.trans ?_ (Below.mono (by assumption) (by first | exact Nat.le_refl _ | (simp; done) | (simp; omega) | omega))))
end Go.Proofs.Ytanfgolelhmdhaa
