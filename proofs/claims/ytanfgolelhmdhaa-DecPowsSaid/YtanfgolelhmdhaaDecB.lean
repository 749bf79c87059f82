/- The contracts of dec.fit, dec.Neg, dec.divisible, dec.less: what each returns; the world below the call's own blocks stays as it was. -/
import Derived.Test.YtanfgolelhmdhaaDecA
import Derived.Deep.RegionWith
namespace Go.Proofs.Ytanfgolelhmdhaa
open Go.RowKit

theorem fit_ok (q : Nat) (neg : Bool) (h : q < topN) (w : World) :
    Calls Try.prog 39 #[QV q, .bool neg] w fun e w' => e = .returned (.tuple #[MV (signB neg q) q, .nilIface]) ∧ Below w.heap.size w w' := by
  have h' : q < 340282366920938463463374607431768211456 := by rw [topN_eq] at h; omega
  have hg : goodB false q = true := by unfold goodB; simpa using h
  have e0 := l0_lo q
  have e1 := l1_hi h'
  have e2 := l2_0 h'
  have e3 := l3_0 h'
  clear h h'
  have c1 := fun w => good_m false q w
  rw [hg] at c1
  have C1 := Lib.hid c1
  clear c1 hg
  go_enter Try.func39, Try.ntmps39
  go_wp2_with (first
    | (go_at_call 15; refine (C1.out _).mono ?_; rintro ew1 w1 ⟨rfl, hbw1⟩; obtain ⟨hcw1, hfw1⟩ := bcell hbw1; (try simp only [World.size_drew, World.cell?_drew, World.frozen?_drew] at hcw1 hfw1); have hzw1 := hbw1.size; (try simp at hzw1); have : w.heap.size < w1.heap.size := (by omega); have : w.heap.size + 1 < w1.heap.size := (by omega); have : w.heap.size + 1 + 1 < w1.heap.size := (by omega))
    | (go_at_call 56; refine (signed_m _ _ _).mono ?_; rintro ew2 w2 ⟨rfl, hbw2⟩; obtain ⟨hcw2, hfw2⟩ := bcell hbw2; (try simp only [World.size_drew, World.cell?_drew, World.frozen?_drew] at hcw2 hfw2); have hzw2 := hbw2.size; (try simp at hzw2); have : w.heap.size < w2.heap.size := (by omega); have : w.heap.size + 1 < w2.heap.size := (by omega); have : w.heap.size + 1 + 1 < w2.heap.size := (by omega)))
  refine bodyPost_ret (v := .tuple #[MV (signB neg q) q, .nilIface]) (by simp [results, Try.results39, go_sem, *]) rfl ⟨rfl, ?_⟩
  repeat (first | (with_reducible exact Below.refl _ _) | (with_reducible refine Below.drew ?_) | (refine Below.setCell ?_ (by first | exact Nat.le_refl _ | (simp; done) | (simp; omega) | omega) _) | (refine Below.alloc ?_ (by first | exact Nat.le_refl _ | (simp; done) | (simp; omega) | omega) _) | (refine Below.trans ?_ (Below.mono (by assumption) (by first | exact Nat.le_refl _ | (simp; done) | (simp; omega) | omega))))

/-- Too great: the upper limbs aren't 0, or the lower ones are no right magnitude. -/
theorem fit_over (q : Nat) (neg : Bool) (h : topN ≤ q) (hq : q < 115792089237316195423570985008687907853269984665640564039457584007913129639936) (w : World) :
    Calls Try.prog 39 #[QV q, .bool neg] w fun e w' => e = .returned (.tuple #[.agg #[.bool false, .int .u64 0, .int .u64 0], .iface 51 (.int .i64 2)]) ∧ Below w.heap.size w w' := by
  by_cases h2 : l2 q = 0
  · by_cases h3 : l3 q = 0
    · have h' : q < 340282366920938463463374607431768211456 := by unfold l2 at h2; unfold l3 at h3; omega
      have hg : goodB false q = false := by unfold goodB; simp; omega
      have e0 := l0_lo q
      have e1 := l1_hi h'
      clear h h' hq
      have c1 := fun w => good_m false q w
      rw [hg] at c1
      have C1 := Lib.hid c1
      clear c1 hg
      go_enter Try.func39, Try.ntmps39
      go_wp2_with (first
        | (go_at_call 15; refine (C1.out _).mono ?_; rintro ew1 w1 ⟨rfl, hbw1⟩; obtain ⟨hcw1, hfw1⟩ := bcell hbw1; (try simp only [World.size_drew, World.cell?_drew, World.frozen?_drew] at hcw1 hfw1); have hzw1 := hbw1.size; (try simp at hzw1); have : w.heap.size < w1.heap.size := (by omega); have : w.heap.size + 1 < w1.heap.size := (by omega); have : w.heap.size + 1 + 1 < w1.heap.size := (by omega)))
      refine bodyPost_ret (v := .tuple #[.agg #[.bool false, .int .u64 0, .int .u64 0], .iface 51 (.int .i64 2)]) (by simp [results, Try.results39, go_sem, *]) rfl ⟨rfl, ?_⟩
      repeat (first | (with_reducible exact Below.refl _ _) | (with_reducible refine Below.drew ?_) | (refine Below.setCell ?_ (by first | exact Nat.le_refl _ | (simp; done) | (simp; omega) | omega) _) | (refine Below.alloc ?_ (by first | exact Nat.le_refl _ | (simp; done) | (simp; omega) | omega) _) | (refine Below.trans ?_ (Below.mono (by assumption) (by first | exact Nat.le_refl _ | (simp; done) | (simp; omega) | omega))))
    · have hb : ((l3 q : Int) != 0) = true := by simp; omega
      have H3 := Lib.hid h3
      clear h h3 hq
      go_enter Try.func39, Try.ntmps39
      go_wp2
      refine bodyPost_ret (v := .tuple #[.agg #[.bool false, .int .u64 0, .int .u64 0], .iface 51 (.int .i64 2)]) (by simp [results, Try.results39, go_sem, *]) rfl ⟨rfl, ?_⟩
      repeat (first | (with_reducible exact Below.refl _ _) | (with_reducible refine Below.drew ?_) | (refine Below.setCell ?_ (by first | exact Nat.le_refl _ | (simp; done) | (simp; omega) | omega) _) | (refine Below.alloc ?_ (by first | exact Nat.le_refl _ | (simp; done) | (simp; omega) | omega) _) | (refine Below.trans ?_ (Below.mono (by assumption) (by first | exact Nat.le_refl _ | (simp; done) | (simp; omega) | omega))))
  · have hb : ((l2 q : Int) != 0) = true := by simp; omega
    have H3 := Lib.hid h2
    clear h h2 hq
    go_enter Try.func39, Try.ntmps39
    go_wp2
    refine bodyPost_ret (v := .tuple #[.agg #[.bool false, .int .u64 0, .int .u64 0], .iface 51 (.int .i64 2)]) (by simp [results, Try.results39, go_sem, *]) rfl ⟨rfl, ?_⟩
    repeat (first | (with_reducible exact Below.refl _ _) | (with_reducible refine Below.drew ?_) | (refine Below.setCell ?_ (by first | exact Nat.le_refl _ | (simp; done) | (simp; omega) | omega) _) | (refine Below.alloc ?_ (by first | exact Nat.le_refl _ | (simp; done) | (simp; omega) | omega) _) | (refine Below.trans ?_ (Below.mono (by assumption) (by first | exact Nat.le_refl _ | (simp; done) | (simp; omega) | omega))))

theorem fit_m (q : Nat) (neg : Bool) (hq : q < 115792089237316195423570985008687907853269984665640564039457584007913129639936) (w : World) :
    Calls Try.prog 39 #[QV q, .bool neg] w fun e w' => e = .returned (.tuple #[MV (signB neg (fitQ q)) (fitQ q), errV (fitC q)]) ∧ Below w.heap.size w w' := by
  by_cases h : q < topN
  · refine (fit_ok q neg h w).mono ?_
    rintro e w' ⟨rfl, hb⟩
    exact ⟨by simp only [fitQ, fitC, h, if_true]; rfl, hb⟩
  · refine (fit_over q neg (by omega) hq w).mono ?_
    rintro e w' ⟨rfl, hb⟩
    refine ⟨?_, hb⟩
    simp only [fitQ, fitC, h, if_false, errV2]
    simp [signB, hiN0, loN0]

theorem neg_bad (n : Bool) (m : Nat) (h : goodB n m = false) (w : World) :
    Calls Try.prog 35 #[MV n m] w fun e w' => e = .returned (.agg #[.bool false, .int .u64 0, .int .u64 0]) ∧ Below w.heap.size w w' := by
  have c1 := fun w => good_m n m w
  rw [h] at c1
  have C1 := Lib.hid c1
  clear c1 h
  go_enter Try.func35, Try.ntmps35
  go_wp2_with (first | (go_at_call 15; refine (C1.out _).mono ?_; rintro ew1 w1 ⟨rfl, hbw1⟩; obtain ⟨hcw1, hfw1⟩ := bcell hbw1; (try simp only [World.size_drew, World.cell?_drew, World.frozen?_drew] at hcw1 hfw1); have hzw1 := hbw1.size; (try simp at hzw1); have : w.heap.size < w1.heap.size := (by omega); have : w.heap.size + 1 < w1.heap.size := (by omega)))
  refine bodyPost_ret (v := .agg #[.bool false, .int .u64 0, .int .u64 0]) (by simp [results, Try.results35, go_sem, *]) rfl ⟨rfl, ?_⟩
  repeat (first | (with_reducible exact Below.refl _ _) | (with_reducible refine Below.drew ?_) | (refine Below.setCell ?_ (by first | exact Nat.le_refl _ | (simp; done) | (simp; omega) | omega) _) | (refine Below.alloc ?_ (by first | exact Nat.le_refl _ | (simp; done) | (simp; omega) | omega) _) | (refine Below.trans ?_ (Below.mono (by assumption) (by first | exact Nat.le_refl _ | (simp; done) | (simp; omega) | omega))))

set_option maxHeartbeats 1000000 in
theorem neg_ok (n : Bool) (m : Nat) (h : goodB n m = true) (w : World) :
    Calls Try.prog 35 #[MV n m] w fun e w' => e = .returned (MV (signB (!n) m) m) ∧ Below w.heap.size w w' := by
  have c1 := fun w => good_m n m w
  rw [h] at c1
  have C1 := Lib.hid c1
  clear c1 h
  go_enter Try.func35, Try.ntmps35
  go_wp2_with (first | (go_at_call 15; refine (C1.out _).mono ?_; rintro ew1 w1 ⟨rfl, hbw1⟩; obtain ⟨hcw1, hfw1⟩ := bcell hbw1; (try simp only [World.size_drew, World.cell?_drew, World.frozen?_drew] at hcw1 hfw1); have hzw1 := hbw1.size; (try simp at hzw1); have : w.heap.size < w1.heap.size := (by omega); have : w.heap.size + 1 < w1.heap.size := (by omega)))
  go_region_with (first
    | (go_at_call 60; refine (size_m _ _ _).mono ?_; rintro ew2 w2 ⟨rfl, hbw2⟩; obtain ⟨hcw2, hfw2⟩ := bcell hbw2; (try simp only [World.size_drew, World.cell?_drew, World.frozen?_drew] at hcw2 hfw2); have hzw2 := hbw2.size; (try simp at hzw2); have : w.heap.size < w2.heap.size := (by omega); have : w.heap.size + 1 < w2.heap.size := (by omega))
    | (go_at_call 56; refine (signed_m _ _ _).mono ?_; rintro ew3 w3 ⟨rfl, hbw3⟩; obtain ⟨hcw3, hfw3⟩ := bcell hbw3; (try simp only [World.size_drew, World.cell?_drew, World.frozen?_drew] at hcw3 hfw3); have hzw3 := hbw3.size; (try simp at hzw3); have : w.heap.size < w3.heap.size := (by omega); have : w.heap.size + 1 < w3.heap.size := (by omega)))
  all_goals
    go_wp2
    refine bodyPost_ret (v := MV (signB (!n) m) m) (by simp [results, Try.results35, go_sem, *]) rfl ⟨rfl, ?_⟩
    repeat (first | (with_reducible exact Below.refl _ _) | (with_reducible refine Below.drew ?_) | (refine Below.setCell ?_ (by first | exact Nat.le_refl _ | (simp; done) | (simp; omega) | omega) _) | (refine Below.alloc ?_ (by first | exact Nat.le_refl _ | (simp; done) | (simp; omega) | omega) _) | (refine Below.trans ?_ (Below.mono (by assumption) (by first | exact Nat.le_refl _ | (simp; done) | (simp; omega) | omega))))

theorem neg_z (z : Int) (h : z.natAbs < topN) (w : World) :
    Calls Try.prog 35 #[ZV z] w fun e w' => e = .returned (ZV (-z)) ∧ Below w.heap.size w w' := by
  refine (neg_ok (negZ z) z.natAbs (by rw [goodB_z]; simpa using h) w).mono ?_
  rintro e w' ⟨rfl, hb⟩
  exact ⟨ret_v (sign_z' (by omega) (by intro h0; unfold negZ; rw [← decide_not]; rw [decide_eq_decide]; omega)), hb⟩

theorem divisible_bad (n n' : Bool) (m m' : Nat) (h : (goodB n m && goodB n' m') = false) (w : World) :
    Calls Try.prog 55 #[MV n m, MV n' m'] w fun e w' => e = .returned (.iface 51 (.int .i64 1)) ∧ Below w.heap.size w w' := by
  by_cases h1 : goodB n m = true
  · have h2 : goodB n' m' = false := by rw [h1] at h; simpa using h
    have c1 := fun w => good_m n m w
    have c2 := fun w => good_m n' m' w
    rw [h1] at c1
    rw [h2] at c2
    have C1 := Lib.hid c1
    have C2 := Lib.hid c2
    clear c1 c2 h1 h2 h
    go_enter Try.func55, Try.ntmps55
    go_wp2_with fail
    refine (C1.out _).mono ?_
    rintro e w1 ⟨rfl, hb1⟩
    obtain ⟨hc1, hf1⟩ := bcell hb1
    have hz1 := hb1.size; simp at hz1
    go_wp2_with fail
    refine (C2.out _).mono ?_
    rintro e w2 ⟨rfl, hb2⟩
    go_wp2
    go_ret
    refine ⟨rfl, ?_⟩
    repeat (first | (with_reducible exact Below.refl _ _) | (with_reducible refine Below.drew ?_) | (refine Below.setCell ?_ (by first | exact Nat.le_refl _ | (simp; done) | (simp; omega) | omega) _) | (refine Below.alloc ?_ (by first | exact Nat.le_refl _ | (simp; done) | (simp; omega) | omega) _) | (refine Below.trans ?_ (Below.mono (by assumption) (by first | exact Nat.le_refl _ | (simp; done) | (simp; omega) | omega))))
  · have h1' : goodB n m = false := by simpa using h1
    have c1 := fun w => good_m n m w
    rw [h1'] at c1
    have C1 := Lib.hid c1
    clear c1 h1 h1' h
    go_enter Try.func55, Try.ntmps55
    go_wp2_with (first | (go_at_call 15; refine (C1.out _).mono ?_; rintro ew1 w1 ⟨rfl, hbw1⟩; obtain ⟨hcw1, hfw1⟩ := bcell hbw1; (try simp only [World.size_drew, World.cell?_drew, World.frozen?_drew] at hcw1 hfw1); have hzw1 := hbw1.size; (try simp at hzw1); have : w.heap.size < w1.heap.size := (by omega); have : w.heap.size + 1 < w1.heap.size := (by omega)))
    go_ret
    refine ⟨rfl, ?_⟩
    repeat (first | (with_reducible exact Below.refl _ _) | (with_reducible refine Below.drew ?_) | (refine Below.setCell ?_ (by first | exact Nat.le_refl _ | (simp; done) | (simp; omega) | omega) _) | (refine Below.alloc ?_ (by first | exact Nat.le_refl _ | (simp; done) | (simp; omega) | omega) _) | (refine Below.trans ?_ (Below.mono (by assumption) (by first | exact Nat.le_refl _ | (simp; done) | (simp; omega) | omega))))

theorem divisible_0 (n n' : Bool) (m : Nat) (h1 : goodB n m = true) (h2 : goodB n' 0 = true) (w : World) :
    Calls Try.prog 55 #[MV n m, MV n' 0] w fun e w' => e = .returned (.iface 51 (.int .i64 3)) ∧ Below w.heap.size w w' := by
  have hn : n' = false := by cases n' <;> simp_all [goodB]
  subst hn
  have he := eql_m0 false false 0
  have c1 := fun w => good_m n m w
  have c2 := fun w => good_m false 0 w
  rw [h1] at c1
  rw [h2] at c2
  have hq : eqM false 0 false 0 = true := rfl
  have C1 := Lib.hid c1
  have C2 := Lib.hid c2
  clear c1 c2 h1 h2
  go_enter Try.func55, Try.ntmps55
  go_wp2_with fail
  refine (C1.out _).mono ?_
  rintro e w1 ⟨rfl, hb1⟩
  obtain ⟨hc1, hf1⟩ := bcell hb1
  have hz1 := hb1.size; simp at hz1
  obtain ⟨_, _⟩ := zs2 hz1
  go_wp2_with fail
  refine (C2.out _).mono ?_
  rintro e w2 ⟨rfl, hb2⟩
  obtain ⟨hc2, hf2⟩ := bcell hb2
  go_wp2
  go_ret
  refine ⟨rfl, ?_⟩
  repeat (first | (with_reducible exact Below.refl _ _) | (with_reducible refine Below.drew ?_) | (refine Below.setCell ?_ (by first | exact Nat.le_refl _ | (simp; done) | (simp; omega) | omega) _) | (refine Below.alloc ?_ (by first | exact Nat.le_refl _ | (simp; done) | (simp; omega) | omega) _) | (refine Below.trans ?_ (Below.mono (by assumption) (by first | exact Nat.le_refl _ | (simp; done) | (simp; omega) | omega))))

theorem divisible_ok (n n' : Bool) (m m' : Nat) (h1 : goodB n m = true) (h2 : goodB n' m' = true) (h0 : m' ≠ 0) (w : World) :
    Calls Try.prog 55 #[MV n m, MV n' m'] w fun e w' => e = .returned .nilIface ∧ Below w.heap.size w w' := by
  have he := eql_m0 n' false m'
  have c1 := fun w => good_m n m w
  have c2 := fun w => good_m n' m' w
  rw [h1] at c1
  rw [h2] at c2
  have hq : eqM n' m' false 0 = false := by unfold eqM; simp [h0]
  have C1 := Lib.hid c1
  have C2 := Lib.hid c2
  clear c1 c2 h1 h2 h0
  go_enter Try.func55, Try.ntmps55
  go_wp2_with fail
  refine (C1.out _).mono ?_
  rintro e w1 ⟨rfl, hb1⟩
  obtain ⟨hc1, hf1⟩ := bcell hb1
  have hz1 := hb1.size; simp at hz1
  obtain ⟨_, _⟩ := zs2 hz1
  go_wp2_with fail
  refine (C2.out _).mono ?_
  rintro e w2 ⟨rfl, hb2⟩
  obtain ⟨hc2, hf2⟩ := bcell hb2
  go_wp2
  go_ret
  refine ⟨rfl, ?_⟩
  repeat (first | (with_reducible exact Below.refl _ _) | (with_reducible refine Below.drew ?_) | (refine Below.setCell ?_ (by first | exact Nat.le_refl _ | (simp; done) | (simp; omega) | omega) _) | (refine Below.alloc ?_ (by first | exact Nat.le_refl _ | (simp; done) | (simp; omega) | omega) _) | (refine Below.trans ?_ (Below.mono (by assumption) (by first | exact Nat.le_refl _ | (simp; done) | (simp; omega) | omega))))
end Go.Proofs.Ytanfgolelhmdhaa
