/- Layer 4: the contract of bracket. -/
import Derived.Test.YtfmekmbdienbjaaEreF
import Derived.Test.YtfmekmbdienbjaaLinD
namespace Go.Proofs.Ytfmekmbdienbjaa
set_option linter.unusedSimpArgs false
set_option linter.unusedVariables false
set_option linter.unnecessarySimpa false
open Go.RowKit

theorem FRow.far4 {w : World} {b a c b' : Nat} {T : TypeId} {cs : Array Value} (h : FRow w b a c) (hl : Lies w b' T cs) (hT : T ≠ 49) (x y z u : Value) :
    FRow ((((w.setCell ⟨b', 0, none⟩ x).setCell ⟨b', 1, none⟩ y).setCell ⟨b', 2, none⟩ z).setCell ⟨b', 3, none⟩ u) b a c := by
  have hne : b ≠ b' := by
    rintro rfl
    have e := h.symm.trans hl
    simp at e
    exact hT e.2.symm
  exact ((((h.far hne x).far hne y).far hne z).far hne u)
theorem BrkC.far4 {B a c b' : Nat} {v : Value} {w : World} {T : TypeId} {cs : Array Value} (h : BrkC B a c v w) (hl : Lies w b' T cs) (hT : T ≠ 49) (x y z u : Value) :
    BrkC B a c v ((((w.setCell ⟨b', 0, none⟩ x).setCell ⟨b', 1, none⟩ y).setCell ⟨b', 2, none⟩ z).setCell ⟨b', 3, none⟩ u) := by
  obtain ⟨b, e, h1, h2⟩ := h; exact ⟨b, e, h1, FRow.far4 h2 hl hT x y z u⟩
theorem FltC.far4 {B a c b' : Nat} {v : Value} {w : World} {T : TypeId} {cs : Array Value} (h : FltC B a c v w) (hl : Lies w b' T cs) (hT : T ≠ 49) (x y z u : Value) :
    FltC B a c v ((((w.setCell ⟨b', 0, none⟩ x).setCell ⟨b', 1, none⟩ y).setCell ⟨b', 2, none⟩ z).setCell ⟨b', 3, none⟩ u) := by
  obtain ⟨b, e, h1, h2⟩ := h; exact ⟨b, e, h1, FRow.far4 h2 hl hT x y z u⟩

set_option maxRecDepth 100000 in
set_option maxHeartbeats 8000000 in
theorem ebr_ok {w : World} {rb : Nat} {v : Value} {l : List UInt8} (h : Env w rb v l) (hl : l.length ≤ 1000000000) (k o : Nat) (hk : k < l.length) (hr : RD w rb v k o) (h91 : isL l k 91 = true) (Q : Nat → Bool) (n : Nat) (hn : n < l.length) (HB : Hid (∀ W, Below w.heap.size w W → Calls Try.prog 30 #[v, .int .i64 (k : Int)] W fun e w' => e = .returned (.tuple #[setV Q, .int .i64 ((n : Int) + 1 - (k : Int)), .nilIface]) ∧ Below W.heap.size W w')) :
    Calls Try.prog 24 #[.pointer (some ⟨rb, 0, none⟩)] w fun e w' => EndR rb v o w (.ok (setT Q) (n + 1)) e w' := by
  have H := Lib.hid h
  have HR := Lib.hid hr
  have hrl := h.rl
  obtain ⟨k1, hk1⟩ : ∃ x, x = k + 1 := ⟨_, rfl⟩
  obtain ⟨k2, hk2⟩ : ∃ x, x = k + 2 := ⟨_, rfl⟩
  have wk : IntKind.i64.wrap ((k : Int) + 1) = (k1 : Int) := by rw [IntKind.wrap_i64]; omega
  have wk2 : IntKind.i64.wrap ((k : Int) + 2) = (k2 : Int) := by rw [IntKind.wrap_i64]; omega
  have HK1 := Lib.hid hk1
  have HK2 := Lib.hid hk2
  have HST := Lib.hid (stp_u Q)
  obtain ⟨n1, hn1⟩ : ∃ x, x = n + 1 := ⟨_, rfl⟩
  obtain ⟨m, hm⟩ : ∃ x : Int, x = (n : Int) + 1 - (k : Int) := ⟨_, rfl⟩
  have wN : IntKind.i64.wrap ((k : Int) + m) = (n1 : Int) := by rw [IntKind.wrap_i64]; omega
  rw [← hm] at HB
  rw [← hn1]
  have HN1 := Lib.hid hn1
  clear hm h91 hn1
  have HBW : Hid (Below w.heap.size w (w.alloc (.cells zeroPA 29))) := (Below.refl _ _).alloc (Nat.le_refl _) _
  clear h hr
  go_enter Try.func24, Try.ntmps24
  go_upto_region 1 with fail
  have K1 : Hid (Kept rb w.heap.size w (w.alloc (.cells zeroPA 29))) := (Kept.refl _ _ _).alloc (Nat.le_refl _) _
  have r2 : Hid (Row (w.alloc (.cells zeroPA 29)) w.heap.size 29 zeroPA) := Row.new w _ _
  have R1 : Hid (RD (w.alloc (.cells zeroPA 29)) rb v k o) := HR.out.on ((Below.refl _ _).alloc (Nat.le_refl _) _)
  have E1 : Hid (Env (w.alloc (.cells zeroPA 29)) rb v l) := H.out.on K1.out
  generalize w.alloc (.cells zeroPA 29) = w1 at *
  obtain ⟨g2, hg2⟩ : ∃ g, g = w.heap.size := ⟨_, rfl⟩
  rw [← hg2]
  rw [← hg2] at r2
  have hg2l : rb < g2 := by rw [hg2]; exact hrl
  have hg2B : Hid (w.heap.size ≤ g2) := Nat.le_of_eq hg2.symm
  clear hg2 H HR hrl hk1 hk2
  obtain ⟨p, cp, rfl, hlc, hcm, hU⟩ := E1.out.bs
  clear hU
  have c0 : w1.cell? ⟨rb, 0, none⟩ = some (.slice p l.length cp) := R1.out.cell 0
  have c1 : w1.cell? ⟨rb, 1, none⟩ = some (.int .i64 ((k : Nat) : Int)) := R1.out.cell 1
  have c2 : w1.cell? ⟨rb, 2, none⟩ = some (.int .i64 ((o : Nat) : Int)) := R1.out.cell 2
  have z1 : w1.frozen? ⟨rb, 1, none⟩ = false := R1.out.froz 1
  have z2 : w1.frozen? ⟨rb, 2, none⟩ = false := R1.out.froz 2
  have hlt1 := R1.out.lt
  have hg2s : g2 < w1.heap.size := r2.out.lt
  refine wp_region_keep (t := fun j => match j with | 14 => 13 | k => k) (al := fun j => match j with | 13 => true | _ => false) (loud := fun j => match j with | 14 => true | _ => false)
    (R := fun j v u w' => match j with
      | 0 => v = .pointer (some ⟨rb, 0, none⟩)
      | 1 => v = .pointer (some ⟨rb, 0, none⟩)
      | 2 => v = .pointer (some ⟨rb, 0, none⟩)
      | 3 => v = .slice p l.length cp
      | 4 => v = .pointer (some ⟨rb, 0, none⟩)
      | 5 => v = .pointer (some ⟨rb, 0, none⟩)
      | 6 => v = .pointer (some ⟨rb, 1, none⟩)
      | 7 => v = .int .i64 (k : Int)
      | 8 => v = .tuple #[setV Q, .int .i64 m, .nilIface]
      | 9 => v = .tuple #[setV Q, .int .i64 m, .nilIface]
      | 10 => v = setV Q
      | 11 => v = .int .i64 m
      | 12 => v = .nilIface
      | 13 => NewR (w1.heap.size) 26 4 v w'
      | 14 => HasR u 26 #[.int .u64 (wd Q 0 : Int), .int .u64 (wd Q 1 : Int), .int .u64 (wd Q 2 : Int), .int .u64 (wd Q 3 : Int)] w'
      | 15 => v = .int .i64 m
      | 16 => v = .nilIface
      | _ => True) (by kernel_rfl) (by kernel_rfl) (by kernel_rfl) ?_ ?_ ?_ ?_
  · intro j v u w1_ w2_ h_ hF_ hB_
    (try dsimp only at h_ ⊢)
    split at h_ <;> first | (with_reducible exact h_) | (with_reducible exact NewR.on h_ hB_) | (with_reducible exact HasR.on h_ hB_) | exact IsNum.on h_ hB_ | exact HasNum.on h_ hB_ | exact RHeld.on h_ hB_ | trivial | exact h_
  · intro j v u w1_ h1_ h_
    (try dsimp only at h1_ h_)
    split at h1_ <;> first | exact NewR.ptr h_ | (cases h1_)
  · intro vs
    simp only [putAll, Act.put, List.setIfInBounds_toArray, List.set_cons_zero, List.set_cons_succ, Nat.zero_add, Nat.reduceAdd]
    refine ⟨?_, ?_, ?_, ?_, ?_, ?_, ?_, ?_, ?_, ?_, ?_, ?_, ?_, ?_, ?_, ?_, ?_, trivial⟩
    · intro w0_ hF_ hd_ Q_ K_ hK_
      have hc0_ := (bcell hF_).1
      have hf0_ := (bcell hF_).2
      have hz0_ := hF_.size; (try simp at hz0_)
      (try simp at hc0_ hf0_)
      have : rb < w0_.heap.size := by omega
      have : g2 < w0_.heap.size := by omega
      simp only [DepsR, Region.binds, Nat.zero_add, Nat.reduceAdd, true_implies, Bool.false_eq_true, false_implies, and_true, true_and, BEq.rfl, reduceCtorEq] at hd_
      go_simp
      exact hK_.out _ _ _ (by first | rfl | (simp only [Act.put, List.setIfInBounds_toArray, List.set_cons_zero, List.set_cons_succ, hd_]; done) | (simp only [Act.put, List.setIfInBounds_toArray, List.set_cons_zero, List.set_cons_succ, hd_]; rfl)) (Below.refl _ _) rfl (fun h => by cases h)
    · intro w0_ hF_ hd_ Q_ K_ hK_
      have hc0_ := (bcell hF_).1
      have hf0_ := (bcell hF_).2
      have hz0_ := hF_.size; (try simp at hz0_)
      (try simp at hc0_ hf0_)
      have : rb < w0_.heap.size := by omega
      have : g2 < w0_.heap.size := by omega
      simp only [DepsR, Region.binds, Nat.zero_add, Nat.reduceAdd, true_implies, Bool.false_eq_true, false_implies, and_true, true_and, BEq.rfl, reduceCtorEq] at hd_
      go_simp
      exact hK_.out _ _ _ (by first | rfl | (simp only [Act.put, List.setIfInBounds_toArray, List.set_cons_zero, List.set_cons_succ, hd_]; done) | (simp only [Act.put, List.setIfInBounds_toArray, List.set_cons_zero, List.set_cons_succ, hd_]; rfl)) (Below.refl _ _) rfl (fun h => by cases h)
    · intro w0_ hF_ hd_ Q_ K_ hK_
      have hc0_ := (bcell hF_).1
      have hf0_ := (bcell hF_).2
      have hz0_ := hF_.size; (try simp at hz0_)
      (try simp at hc0_ hf0_)
      have : rb < w0_.heap.size := by omega
      have : g2 < w0_.heap.size := by omega
      simp only [DepsR, Region.binds, Nat.zero_add, Nat.reduceAdd, true_implies, Bool.false_eq_true, false_implies, and_true, true_and, BEq.rfl, reduceCtorEq] at hd_
      go_simp
      exact hK_.out _ _ _ (by first | rfl | (simp only [Act.put, List.setIfInBounds_toArray, List.set_cons_zero, List.set_cons_succ, hd_]; done) | (simp only [Act.put, List.setIfInBounds_toArray, List.set_cons_zero, List.set_cons_succ, hd_]; rfl)) (Below.refl _ _) rfl (fun h => by cases h)
    · intro w0_ hF_ hd_ Q_ K_ hK_
      have hc0_ := (bcell hF_).1
      have hf0_ := (bcell hF_).2
      have hz0_ := hF_.size; (try simp at hz0_)
      (try simp at hc0_ hf0_)
      have : rb < w0_.heap.size := by omega
      have : g2 < w0_.heap.size := by omega
      simp only [DepsR, Region.binds, Nat.zero_add, Nat.reduceAdd, true_implies, Bool.false_eq_true, false_implies, and_true, true_and, BEq.rfl, reduceCtorEq] at hd_
      go_simp
      exact hK_.out _ _ _ (by first | rfl | (simp only [Act.put, List.setIfInBounds_toArray, List.set_cons_zero, List.set_cons_succ, hd_]; done) | (simp only [Act.put, List.setIfInBounds_toArray, List.set_cons_zero, List.set_cons_succ, hd_]; rfl)) (Below.refl _ _) rfl (fun h => by cases h)
    · intro w0_ hF_ hd_ Q_ K_ hK_
      have hc0_ := (bcell hF_).1
      have hf0_ := (bcell hF_).2
      have hz0_ := hF_.size; (try simp at hz0_)
      (try simp at hc0_ hf0_)
      have : rb < w0_.heap.size := by omega
      have : g2 < w0_.heap.size := by omega
      simp only [DepsR, Region.binds, Nat.zero_add, Nat.reduceAdd, true_implies, Bool.false_eq_true, false_implies, and_true, true_and, BEq.rfl, reduceCtorEq] at hd_
      go_simp
      exact hK_.out _ _ _ (by first | rfl | (simp only [Act.put, List.setIfInBounds_toArray, List.set_cons_zero, List.set_cons_succ, hd_]; done) | (simp only [Act.put, List.setIfInBounds_toArray, List.set_cons_zero, List.set_cons_succ, hd_]; rfl)) (Below.refl _ _) rfl (fun h => by cases h)
    · intro w0_ hF_ hd_ Q_ K_ hK_
      have hc0_ := (bcell hF_).1
      have hf0_ := (bcell hF_).2
      have hz0_ := hF_.size; (try simp at hz0_)
      (try simp at hc0_ hf0_)
      have : rb < w0_.heap.size := by omega
      have : g2 < w0_.heap.size := by omega
      simp only [DepsR, Region.binds, Nat.zero_add, Nat.reduceAdd, true_implies, Bool.false_eq_true, false_implies, and_true, true_and, BEq.rfl, reduceCtorEq] at hd_
      go_simp
      exact hK_.out _ _ _ (by first | rfl | (simp only [Act.put, List.setIfInBounds_toArray, List.set_cons_zero, List.set_cons_succ, hd_]; done) | (simp only [Act.put, List.setIfInBounds_toArray, List.set_cons_zero, List.set_cons_succ, hd_]; rfl)) (Below.refl _ _) rfl (fun h => by cases h)
    · intro w0_ hF_ hd_ Q_ K_ hK_
      have hc0_ := (bcell hF_).1
      have hf0_ := (bcell hF_).2
      have hz0_ := hF_.size; (try simp at hz0_)
      (try simp at hc0_ hf0_)
      have : rb < w0_.heap.size := by omega
      have : g2 < w0_.heap.size := by omega
      simp only [DepsR, Region.binds, Nat.zero_add, Nat.reduceAdd, true_implies, Bool.false_eq_true, false_implies, and_true, true_and, BEq.rfl, reduceCtorEq] at hd_
      go_simp
      exact hK_.out _ _ _ (by first | rfl | (simp only [Act.put, List.setIfInBounds_toArray, List.set_cons_zero, List.set_cons_succ, hd_]; done) | (simp only [Act.put, List.setIfInBounds_toArray, List.set_cons_zero, List.set_cons_succ, hd_]; rfl)) (Below.refl _ _) rfl (fun h => by cases h)
    · intro w0_ hF_ hd_ Q_ K_ hK_
      have hc0_ := (bcell hF_).1
      have hf0_ := (bcell hF_).2
      have hz0_ := hF_.size; (try simp at hz0_)
      (try simp at hc0_ hf0_)
      have : rb < w0_.heap.size := by omega
      have : g2 < w0_.heap.size := by omega
      simp only [DepsR, Region.binds, Nat.zero_add, Nat.reduceAdd, true_implies, Bool.false_eq_true, false_implies, and_true, true_and, BEq.rfl, reduceCtorEq] at hd_
      go_simp
      exact hK_.out _ _ _ (by first | rfl | (simp only [Act.put, List.setIfInBounds_toArray, List.set_cons_zero, List.set_cons_succ, hd_]; done) | (simp only [Act.put, List.setIfInBounds_toArray, List.set_cons_zero, List.set_cons_succ, hd_]; rfl)) (Below.refl _ _) rfl (fun h => by cases h)
    · intro w0_ hF_ hd_ Q_ K_ hK_
      have hc0_ := (bcell hF_).1
      have hf0_ := (bcell hF_).2
      have hz0_ := hF_.size; (try simp at hz0_)
      (try simp at hc0_ hf0_)
      have : rb < w0_.heap.size := by omega
      have : g2 < w0_.heap.size := by omega
      simp only [DepsR, Region.binds, Nat.zero_add, Nat.reduceAdd, true_implies, Bool.false_eq_true, false_implies, and_true, true_and, BEq.rfl, reduceCtorEq] at hd_
      go_simp
      refine (HB.out _ (below_on HBW.out hF_)).mono ?_
      rintro e_ w1_ ⟨rfl, hb_⟩
      exact hK_.out _ _ _ (by first | rfl | (simp only [Act.put, List.setIfInBounds_toArray, List.set_cons_zero, List.set_cons_succ, hd_]; done) | (simp only [Act.put, List.setIfInBounds_toArray, List.set_cons_zero, List.set_cons_succ, hd_]; rfl)) hb_ rfl (fun h => by cases h)
    · intro w0_ hF_ hd_ Q_ K_ hK_
      have hc0_ := (bcell hF_).1
      have hf0_ := (bcell hF_).2
      have hz0_ := hF_.size; (try simp at hz0_)
      (try simp at hc0_ hf0_)
      have : rb < w0_.heap.size := by omega
      have : g2 < w0_.heap.size := by omega
      simp only [DepsR, Region.binds, Nat.zero_add, Nat.reduceAdd, true_implies, Bool.false_eq_true, false_implies, and_true, true_and, BEq.rfl, reduceCtorEq] at hd_
      go_simp
      exact hK_.out _ _ _ (by first | rfl | (simp only [Act.put, List.setIfInBounds_toArray, List.set_cons_zero, List.set_cons_succ, hd_]; done) | (simp only [Act.put, List.setIfInBounds_toArray, List.set_cons_zero, List.set_cons_succ, hd_]; rfl)) (Below.refl _ _) rfl (fun h => by cases h)
    · intro w0_ hF_ hd_ Q_ K_ hK_
      have hc0_ := (bcell hF_).1
      have hf0_ := (bcell hF_).2
      have hz0_ := hF_.size; (try simp at hz0_)
      (try simp at hc0_ hf0_)
      have : rb < w0_.heap.size := by omega
      have : g2 < w0_.heap.size := by omega
      simp only [DepsR, Region.binds, Nat.zero_add, Nat.reduceAdd, true_implies, Bool.false_eq_true, false_implies, and_true, true_and, BEq.rfl, reduceCtorEq] at hd_
      go_simp
      exact hK_.out _ _ _ (by first | rfl | (simp only [Act.put, List.setIfInBounds_toArray, List.set_cons_zero, List.set_cons_succ, hd_]; done) | (simp only [Act.put, List.setIfInBounds_toArray, List.set_cons_zero, List.set_cons_succ, hd_]; rfl)) (Below.refl _ _) rfl (fun h => by cases h)
    · intro w0_ hF_ hd_ Q_ K_ hK_
      have hc0_ := (bcell hF_).1
      have hf0_ := (bcell hF_).2
      have hz0_ := hF_.size; (try simp at hz0_)
      (try simp at hc0_ hf0_)
      have : rb < w0_.heap.size := by omega
      have : g2 < w0_.heap.size := by omega
      simp only [DepsR, Region.binds, Nat.zero_add, Nat.reduceAdd, true_implies, Bool.false_eq_true, false_implies, and_true, true_and, BEq.rfl, reduceCtorEq] at hd_
      go_simp
      exact hK_.out _ _ _ (by first | rfl | (simp only [Act.put, List.setIfInBounds_toArray, List.set_cons_zero, List.set_cons_succ, hd_]; done) | (simp only [Act.put, List.setIfInBounds_toArray, List.set_cons_zero, List.set_cons_succ, hd_]; rfl)) (Below.refl _ _) rfl (fun h => by cases h)
    · intro w0_ hF_ hd_ Q_ K_ hK_
      have hc0_ := (bcell hF_).1
      have hf0_ := (bcell hF_).2
      have hz0_ := hF_.size; (try simp at hz0_)
      (try simp at hc0_ hf0_)
      have : rb < w0_.heap.size := by omega
      have : g2 < w0_.heap.size := by omega
      simp only [DepsR, Region.binds, Nat.zero_add, Nat.reduceAdd, true_implies, Bool.false_eq_true, false_implies, and_true, true_and, BEq.rfl, reduceCtorEq] at hd_
      go_simp
      exact hK_.out _ _ _ (by first | rfl | (simp only [Act.put, List.setIfInBounds_toArray, List.set_cons_zero, List.set_cons_succ, hd_]; done) | (simp only [Act.put, List.setIfInBounds_toArray, List.set_cons_zero, List.set_cons_succ, hd_]; rfl)) (Below.refl _ _) rfl (fun h => by cases h)
    · intro w0_ hF_ hd_ Q_ K_ hK_
      have hc0_ := (bcell hF_).1
      have hf0_ := (bcell hF_).2
      have hz0_ := hF_.size; (try simp at hz0_)
      (try simp at hc0_ hf0_)
      have : rb < w0_.heap.size := by omega
      have : g2 < w0_.heap.size := by omega
      simp only [DepsR, Region.binds, Nat.zero_add, Nat.reduceAdd, true_implies, Bool.false_eq_true, false_implies, and_true, true_and, BEq.rfl, reduceCtorEq] at hd_
      go_simp
      exact hK_.out _ _ _ (by first | rfl | (simp only [Act.put, List.setIfInBounds_toArray, List.set_cons_zero, List.set_cons_succ, hd_]; done) | (simp only [Act.put, List.setIfInBounds_toArray, List.set_cons_zero, List.set_cons_succ, hd_]; rfl)) ((Below.refl _ _).alloc (Nat.le_refl _) _) ⟨_, _, rfl, by omega, rfl, Lies.fresh _ _ _⟩ (fun _ => ⟨_, rfl, Nat.le_refl _⟩)
    · intro w0_ hF_ hd_ Q_ K_ hK_
      have hc0_ := (bcell hF_).1
      have hf0_ := (bcell hF_).2
      have hz0_ := hF_.size; (try simp at hz0_)
      (try simp at hc0_ hf0_)
      have : rb < w0_.heap.size := by omega
      have : g2 < w0_.heap.size := by omega
      simp only [DepsR, Region.binds, Nat.zero_add, Nat.reduceAdd, true_implies, Bool.false_eq_true, false_implies, and_true, true_and, BEq.rfl, reduceCtorEq] at hd_
      obtain ⟨b_, cs_, hv_, hB_, hn_, hl_⟩ : NewR (w1.heap.size) 26 4 (vs 13) w0_ := by simp only [hd_]
      obtain ⟨c0_, c1_, c2_, c3_, rfl⟩ := size4 hn_
      obtain ⟨k0_, k1_, k2_, k3_, f0_, f1_, f2_, f3_⟩ := hl_.cells4
      go_simp
      refine hK_.out _ undef _ (by first | rfl | (simp only [Act.put, List.setIfInBounds_toArray, List.set_cons_zero, List.set_cons_succ, hd_, hv_]; done) | (simp only [Act.put, List.setIfInBounds_toArray, List.set_cons_zero, List.set_cons_succ, hd_, hv_]; rfl)) ⟨?_, fun j_ hj_ hd2_ h_ => ?_⟩ ⟨b_, by simpa using hv_, hl_.put4 _ _ _ _⟩ (fun h => by cases h)
      · refine Below.setCell ?_ (by simp; omega) _; refine Below.setCell ?_ (by simp; omega) _; refine Below.setCell ?_ (by simp; omega) _; refine Below.setCell ?_ (by simp; omega) _; exact hF_
      · (try dsimp only at h_ hd2_ ⊢)
        split at h_ <;> first | (with_reducible exact h_) | (exact NewR.far4 h_ hv_ (hd2_ rfl rfl (by decide)) _ _ _ _) | (exact HasR.far4 h_ hv_ (hd2_ rfl rfl (by decide)) _ _ _ _) | exact ⟨b_, _, by simpa using hv_, hB_, rfl, hl_.put4 _ _ _ _⟩ | trivial | exact h_
    · intro w0_ hF_ hd_ Q_ K_ hK_
      have hc0_ := (bcell hF_).1
      have hf0_ := (bcell hF_).2
      have hz0_ := hF_.size; (try simp at hz0_)
      (try simp at hc0_ hf0_)
      have : rb < w0_.heap.size := by omega
      have : g2 < w0_.heap.size := by omega
      simp only [DepsR, Region.binds, Nat.zero_add, Nat.reduceAdd, true_implies, Bool.false_eq_true, false_implies, and_true, true_and, BEq.rfl, reduceCtorEq] at hd_
      go_simp
      exact hK_.out _ _ _ (by first | rfl | (simp only [Act.put, List.setIfInBounds_toArray, List.set_cons_zero, List.set_cons_succ, hd_]; done) | (simp only [Act.put, List.setIfInBounds_toArray, List.set_cons_zero, List.set_cons_succ, hd_]; rfl)) (Below.refl _ _) rfl (fun h => by cases h)
    · intro w0_ hF_ hd_ Q_ K_ hK_
      have hc0_ := (bcell hF_).1
      have hf0_ := (bcell hF_).2
      have hz0_ := hF_.size; (try simp at hz0_)
      (try simp at hc0_ hf0_)
      have : rb < w0_.heap.size := by omega
      have : g2 < w0_.heap.size := by omega
      simp only [DepsR, Region.binds, Nat.zero_add, Nat.reduceAdd, true_implies, Bool.false_eq_true, false_implies, and_true, true_and, BEq.rfl, reduceCtorEq] at hd_
      go_simp
      exact hK_.out _ _ _ (by first | rfl | (simp only [Act.put, List.setIfInBounds_toArray, List.set_cons_zero, List.set_cons_succ, hd_]; done) | (simp only [Act.put, List.setIfInBounds_toArray, List.set_cons_zero, List.set_cons_succ, hd_]; rfl)) (Below.refl _ _) rfl (fun h => by cases h)
  · intro vs w3 hBw3 hA_ hD_
    simp only [AllR, Nat.zero_add, Nat.reduceAdd, and_true] at hA_
    obtain ⟨r0_, r1_, r2_, r3_, r4_, r5_, r6_, r7_, r8_, r9_, r10_, r11_, r12_, r13_, r14_, r15_, r16_⟩ := hA_
    obtain ⟨b13w3, e13_, l13⟩ := r14_
    obtain ⟨b_, cs_, e_, hb13, n_, l_⟩ := r13_
    obtain rfl : b13w3 = b_ := by have := e_.symm.trans e13_; simpa using this.symm
    clear e_ n_ l_
    clear hD_
    simp only [putAll, Act.put, List.setIfInBounds_toArray, List.set_cons_zero, List.set_cons_succ, Nat.zero_add, Nat.reduceAdd, r0_, r1_, r2_, r3_, r4_, r5_, r6_, r7_, r8_, r9_, r10_, r11_, r12_, r15_, r16_, e13_]
    clear r0_ r1_ r2_ r3_ r4_ r5_ r6_ r7_ r8_ r9_ r10_ r11_ r12_ r15_ r16_ e13_
    obtain ⟨hcw3, hfw3⟩ := bcell hBw3; (try simp only [World.size_drew, World.cell?_drew, World.frozen?_drew] at hcw3 hfw3); have hzw3 := hBw3.size; (try simp at hzw3)
    have : rb < w3.heap.size := by omega
    have : g2 < w3.heap.size := by omega
    obtain ⟨k13_0, k13_1, k13_2, k13_3, f13_0, f13_1, f13_2, f13_3⟩ := l13.cells4
    have : b13w3 < w3.heap.size := l13.lt
    have r2' := Lib.hid (r2.out.on hBw3)
    have R1' : Hid (RD w3 rb (.slice p l.length cp) k o) := R1.out.on hBw3
    have K1' := Lib.hid (K1.out.then hBw3 K1.out.size)
    have E1' := Lib.hid (E1.out.on (Kept.of hBw3))
    have hsz := Lib.hid hBw3.size
    have hrw : rb < w1.heap.size := R1.out.lt
    have hb13 : rb ≠ b13w3 := by omega
    clear r2 R1 K1 E1 c0 c1 c2 z1 z2 hlt1 hcw3 hfw3 hBw3 HB HBW hzw3
    have r2 := r2'
    have R1 := R1'
    have K1 := K1'
    have E1 := E1'
    clear r2' R1' K1' E1'
    have c0 : w3.cell? ⟨rb, 0, none⟩ = some (.slice p l.length cp) := R1.out.cell 0
    have c1 : w3.cell? ⟨rb, 1, none⟩ = some (.int .i64 ((k : Nat) : Int)) := R1.out.cell 1
    have c2 : w3.cell? ⟨rb, 2, none⟩ = some (.int .i64 ((o : Nat) : Int)) := R1.out.cell 2
    have z1 : w3.frozen? ⟨rb, 1, none⟩ = false := R1.out.froz 1
    have z2 : w3.frozen? ⟨rb, 2, none⟩ = false := R1.out.froz 2
    have hlt1 := R1.out.lt
    go_wp2_with fail
    have r2' : Hid (Row (w3.setCell ⟨rb, 1, none⟩ (.int .i64 (n1 : Int))) g2 29 zeroPA) := r2.out.far (by simp; omega) _
    have R1' : Hid (RD (w3.setCell ⟨rb, 1, none⟩ (.int .i64 (n1 : Int))) rb (.slice p l.length cp) n1 o) := R1.out.set 1 _
    have K1' := Lib.hid (K1.out.setCell (p := ⟨rb, 1, none⟩) (Or.inr rfl) (.int .i64 (n1 : Int)))
    have E1' := Lib.hid (E1.out.on ((Kept.refl rb w3.heap.size w3).setCell (p := ⟨rb, 1, none⟩) (Or.inr rfl) (.int .i64 (n1 : Int))))
    clear r2 R1 K1 E1 c0 c1 c2 z1 z2 hlt1
    generalize w3.setCell ⟨rb, 1, none⟩ (.int .i64 (n1 : Int)) = w4 at *
    have r2 := r2'
    have R1 := R1'
    have K1 := K1'
    have E1 := E1'
    clear r2' R1' K1' E1'
    refine (HST.out _).mono ?_
    rintro e w5 ⟨rfl, hb⟩; (try dsimp only)
    have r2' := Lib.hid (r2.out.on hb)
    have R1' : Hid (RD w5 rb (.slice p l.length cp) n1 o) := R1.out.on hb
    have K1' := Lib.hid (K1.out.then hb K1.out.size)
    have E1' := Lib.hid (E1.out.on (Kept.of hb))
    clear r2 R1 K1 E1 hb
    have r2 := r2'
    have R1 := R1'
    have K1 := K1'
    have E1 := E1'
    clear r2' R1' K1' E1'
    have HR4 := r2
    obtain ⟨j0, j1, j2, j3, j4, j5, j6, j7, f0, f1, f2, f3, f4, f5, f6, f7, z4⟩ := r2.out.eight
    have R5 := Lib.hid (r2.out.setRow_same (partA 1 Q 0 0 (.slice none 0 0)))
    have P5 : Hid (PVal (w5.setRow g2 (partA 1 Q 0 0 (.slice none 0 0))) w.heap.size (partA 1 Q 0 0 (.slice none 0 0)) (setT Q)) := PVal.leaf _ _ _ _ _ _
    have D5 : Hid (RD (w5.setRow g2 (partA 1 Q 0 0 (.slice none 0 0))) rb (.slice p l.length cp) (n1) o) := R1.out.setRow (by omega) _
    have K5 : Hid (Kept rb w.heap.size w (w5.setRow g2 (partA 1 Q 0 0 (.slice none 0 0)))) := K1.out.setRow (Or.inl hg2B.out) _
    clear r2 R1 K1 E1
    go_wp2
    rw [set8 HR4.out]
    exact bodyPost_ret (pret rfl R5.out rfl rfl rfl) rfl ⟨(partA 1 Q 0 0 (.slice none 0 0)), _, rfl, ⟨rfl, P5.out⟩, by have h9 := D5.out; exact h9, K5.out⟩
set_option maxRecDepth 100000 in
set_option maxHeartbeats 8000000 in
theorem ebr_bad {w : World} {rb : Nat} {v : Value} {l : List UInt8} (h : Env w rb v l) (hl : l.length ≤ 1000000000) (k o : Nat) (hk : k < l.length) (hr : RD w rb v k o) (h91 : isL l k 91 = true) (a cc : Nat) (HB : Hid (∀ W, Below w.heap.size w W → Calls Try.prog 30 #[v, .int .i64 (k : Int)] W fun e w' => ∃ x, e = .returned x ∧ BrkC w.heap.size a cc x w' ∧ Below W.heap.size W w')) :
    Calls Try.prog 24 #[.pointer (some ⟨rb, 0, none⟩)] w fun e w' => EndR rb v o w (.bad a cc) e w' := by
  have H := Lib.hid h
  have HR := Lib.hid hr
  have hrl := h.rl
  obtain ⟨k1, hk1⟩ : ∃ x, x = k + 1 := ⟨_, rfl⟩
  obtain ⟨k2, hk2⟩ : ∃ x, x = k + 2 := ⟨_, rfl⟩
  have wk : IntKind.i64.wrap ((k : Int) + 1) = (k1 : Int) := by rw [IntKind.wrap_i64]; omega
  have wk2 : IntKind.i64.wrap ((k : Int) + 2) = (k2 : Int) := by rw [IntKind.wrap_i64]; omega
  have HK1 := Lib.hid hk1
  have HK2 := Lib.hid hk2
  clear h91
  have HBW : Hid (Below w.heap.size w (w.alloc (.cells zeroPA 29))) := (Below.refl _ _).alloc (Nat.le_refl _) _
  obtain ⟨B0, hB0⟩ : ∃ x, x = w.heap.size := ⟨_, rfl⟩
  have HB0 := Lib.hid hB0
  have HBB : Hid (∀ W, Below w.heap.size w W → Calls Try.prog 30 #[v, .int .i64 (k : Int)] W fun e w' => ∃ x, e = .returned x ∧ BrkC B0 a cc x w' ∧ Below W.heap.size W w') := by rw [hB0]; exact HB.out
  clear hB0 HB
  clear h hr
  go_enter Try.func24, Try.ntmps24
  go_upto_region 1 with fail
  have K1 : Hid (Kept rb w.heap.size w (w.alloc (.cells zeroPA 29))) := (Kept.refl _ _ _).alloc (Nat.le_refl _) _
  have r2 : Hid (Row (w.alloc (.cells zeroPA 29)) w.heap.size 29 zeroPA) := Row.new w _ _
  have R1 : Hid (RD (w.alloc (.cells zeroPA 29)) rb v k o) := HR.out.on ((Below.refl _ _).alloc (Nat.le_refl _) _)
  have E1 : Hid (Env (w.alloc (.cells zeroPA 29)) rb v l) := H.out.on K1.out
  generalize w.alloc (.cells zeroPA 29) = w1 at *
  obtain ⟨g2, hg2⟩ : ∃ g, g = w.heap.size := ⟨_, rfl⟩
  rw [← hg2]
  rw [← hg2] at r2
  have hg2l : rb < g2 := by rw [hg2]; exact hrl
  have hg2B : Hid (w.heap.size ≤ g2) := Nat.le_of_eq hg2.symm
  clear hg2 H HR hrl hk1 hk2
  obtain ⟨p, cp, rfl, hlc, hcm, hU⟩ := E1.out.bs
  clear hU
  have c0 : w1.cell? ⟨rb, 0, none⟩ = some (.slice p l.length cp) := R1.out.cell 0
  have c1 : w1.cell? ⟨rb, 1, none⟩ = some (.int .i64 ((k : Nat) : Int)) := R1.out.cell 1
  have c2 : w1.cell? ⟨rb, 2, none⟩ = some (.int .i64 ((o : Nat) : Int)) := R1.out.cell 2
  have z1 : w1.frozen? ⟨rb, 1, none⟩ = false := R1.out.froz 1
  have z2 : w1.frozen? ⟨rb, 2, none⟩ = false := R1.out.froz 2
  have hlt1 := R1.out.lt
  have hg2s : g2 < w1.heap.size := r2.out.lt
  refine wp_region_keep (t := fun j => match j with | 14 => 13 | k => k) (al := fun j => match j with | 13 => true | _ => false) (loud := fun j => match j with | 14 => true | _ => false)
    (R := fun j v u w' => match j with
      | 0 => v = .pointer (some ⟨rb, 0, none⟩)
      | 1 => v = .pointer (some ⟨rb, 0, none⟩)
      | 2 => v = .pointer (some ⟨rb, 0, none⟩)
      | 3 => v = .slice p l.length cp
      | 4 => v = .pointer (some ⟨rb, 0, none⟩)
      | 5 => v = .pointer (some ⟨rb, 0, none⟩)
      | 6 => v = .pointer (some ⟨rb, 1, none⟩)
      | 7 => v = .int .i64 (k : Int)
      | 8 => BrkC B0 a cc v w'
      | 9 => BrkC B0 a cc v w'
      | 10 => v = zeroV
      | 11 => v = .int .i64 0
      | 12 => FltC B0 a cc v w'
      | 13 => NewR (w1.heap.size) 26 4 v w'
      | 14 => HasR u 26 #[.int .u64 0, .int .u64 0, .int .u64 0, .int .u64 0] w'
      | 15 => v = .int .i64 0
      | 16 => FltC B0 a cc v w'
      | _ => True) (by kernel_rfl) (by kernel_rfl) (by kernel_rfl) ?_ ?_ ?_ ?_
  · intro j v u w1_ w2_ h_ hF_ hB_
    (try dsimp only at h_ ⊢)
    split at h_ <;> first | (with_reducible exact h_) | (with_reducible exact NewR.on h_ hB_) | (with_reducible exact HasR.on h_ hB_) | exact IsNum.on h_ hB_ | exact HasNum.on h_ hB_ | exact RHeld.on h_ hB_ | (first | exact BrkC.on h_ hB_ | exact FltC.on h_ hB_) | trivial | exact h_
  · intro j v u w1_ h1_ h_
    (try dsimp only at h1_ h_)
    split at h1_ <;> first | exact NewR.ptr h_ | (cases h1_)
  · intro vs
    simp only [putAll, Act.put, List.setIfInBounds_toArray, List.set_cons_zero, List.set_cons_succ, Nat.zero_add, Nat.reduceAdd]
    refine ⟨?_, ?_, ?_, ?_, ?_, ?_, ?_, ?_, ?_, ?_, ?_, ?_, ?_, ?_, ?_, ?_, ?_, trivial⟩
    · intro w0_ hF_ hd_ Q_ K_ hK_
      have hc0_ := (bcell hF_).1
      have hf0_ := (bcell hF_).2
      have hz0_ := hF_.size; (try simp at hz0_)
      (try simp at hc0_ hf0_)
      have : rb < w0_.heap.size := by omega
      have : g2 < w0_.heap.size := by omega
      simp only [DepsR, Region.binds, Nat.zero_add, Nat.reduceAdd, true_implies, Bool.false_eq_true, false_implies, and_true, true_and, BEq.rfl, reduceCtorEq] at hd_
      go_simp
      exact hK_.out _ _ _ (by first | rfl | (simp only [Act.put, List.setIfInBounds_toArray, List.set_cons_zero, List.set_cons_succ, hd_]; done) | (simp only [Act.put, List.setIfInBounds_toArray, List.set_cons_zero, List.set_cons_succ, hd_]; rfl)) (Below.refl _ _) rfl (fun h => by cases h)
    · intro w0_ hF_ hd_ Q_ K_ hK_
      have hc0_ := (bcell hF_).1
      have hf0_ := (bcell hF_).2
      have hz0_ := hF_.size; (try simp at hz0_)
      (try simp at hc0_ hf0_)
      have : rb < w0_.heap.size := by omega
      have : g2 < w0_.heap.size := by omega
      simp only [DepsR, Region.binds, Nat.zero_add, Nat.reduceAdd, true_implies, Bool.false_eq_true, false_implies, and_true, true_and, BEq.rfl, reduceCtorEq] at hd_
      go_simp
      exact hK_.out _ _ _ (by first | rfl | (simp only [Act.put, List.setIfInBounds_toArray, List.set_cons_zero, List.set_cons_succ, hd_]; done) | (simp only [Act.put, List.setIfInBounds_toArray, List.set_cons_zero, List.set_cons_succ, hd_]; rfl)) (Below.refl _ _) rfl (fun h => by cases h)
    · intro w0_ hF_ hd_ Q_ K_ hK_
      have hc0_ := (bcell hF_).1
      have hf0_ := (bcell hF_).2
      have hz0_ := hF_.size; (try simp at hz0_)
      (try simp at hc0_ hf0_)
      have : rb < w0_.heap.size := by omega
      have : g2 < w0_.heap.size := by omega
      simp only [DepsR, Region.binds, Nat.zero_add, Nat.reduceAdd, true_implies, Bool.false_eq_true, false_implies, and_true, true_and, BEq.rfl, reduceCtorEq] at hd_
      go_simp
      exact hK_.out _ _ _ (by first | rfl | (simp only [Act.put, List.setIfInBounds_toArray, List.set_cons_zero, List.set_cons_succ, hd_]; done) | (simp only [Act.put, List.setIfInBounds_toArray, List.set_cons_zero, List.set_cons_succ, hd_]; rfl)) (Below.refl _ _) rfl (fun h => by cases h)
    · intro w0_ hF_ hd_ Q_ K_ hK_
      have hc0_ := (bcell hF_).1
      have hf0_ := (bcell hF_).2
      have hz0_ := hF_.size; (try simp at hz0_)
      (try simp at hc0_ hf0_)
      have : rb < w0_.heap.size := by omega
      have : g2 < w0_.heap.size := by omega
      simp only [DepsR, Region.binds, Nat.zero_add, Nat.reduceAdd, true_implies, Bool.false_eq_true, false_implies, and_true, true_and, BEq.rfl, reduceCtorEq] at hd_
      go_simp
      exact hK_.out _ _ _ (by first | rfl | (simp only [Act.put, List.setIfInBounds_toArray, List.set_cons_zero, List.set_cons_succ, hd_]; done) | (simp only [Act.put, List.setIfInBounds_toArray, List.set_cons_zero, List.set_cons_succ, hd_]; rfl)) (Below.refl _ _) rfl (fun h => by cases h)
    · intro w0_ hF_ hd_ Q_ K_ hK_
      have hc0_ := (bcell hF_).1
      have hf0_ := (bcell hF_).2
      have hz0_ := hF_.size; (try simp at hz0_)
      (try simp at hc0_ hf0_)
      have : rb < w0_.heap.size := by omega
      have : g2 < w0_.heap.size := by omega
      simp only [DepsR, Region.binds, Nat.zero_add, Nat.reduceAdd, true_implies, Bool.false_eq_true, false_implies, and_true, true_and, BEq.rfl, reduceCtorEq] at hd_
      go_simp
      exact hK_.out _ _ _ (by first | rfl | (simp only [Act.put, List.setIfInBounds_toArray, List.set_cons_zero, List.set_cons_succ, hd_]; done) | (simp only [Act.put, List.setIfInBounds_toArray, List.set_cons_zero, List.set_cons_succ, hd_]; rfl)) (Below.refl _ _) rfl (fun h => by cases h)
    · intro w0_ hF_ hd_ Q_ K_ hK_
      have hc0_ := (bcell hF_).1
      have hf0_ := (bcell hF_).2
      have hz0_ := hF_.size; (try simp at hz0_)
      (try simp at hc0_ hf0_)
      have : rb < w0_.heap.size := by omega
      have : g2 < w0_.heap.size := by omega
      simp only [DepsR, Region.binds, Nat.zero_add, Nat.reduceAdd, true_implies, Bool.false_eq_true, false_implies, and_true, true_and, BEq.rfl, reduceCtorEq] at hd_
      go_simp
      exact hK_.out _ _ _ (by first | rfl | (simp only [Act.put, List.setIfInBounds_toArray, List.set_cons_zero, List.set_cons_succ, hd_]; done) | (simp only [Act.put, List.setIfInBounds_toArray, List.set_cons_zero, List.set_cons_succ, hd_]; rfl)) (Below.refl _ _) rfl (fun h => by cases h)
    · intro w0_ hF_ hd_ Q_ K_ hK_
      have hc0_ := (bcell hF_).1
      have hf0_ := (bcell hF_).2
      have hz0_ := hF_.size; (try simp at hz0_)
      (try simp at hc0_ hf0_)
      have : rb < w0_.heap.size := by omega
      have : g2 < w0_.heap.size := by omega
      simp only [DepsR, Region.binds, Nat.zero_add, Nat.reduceAdd, true_implies, Bool.false_eq_true, false_implies, and_true, true_and, BEq.rfl, reduceCtorEq] at hd_
      go_simp
      exact hK_.out _ _ _ (by first | rfl | (simp only [Act.put, List.setIfInBounds_toArray, List.set_cons_zero, List.set_cons_succ, hd_]; done) | (simp only [Act.put, List.setIfInBounds_toArray, List.set_cons_zero, List.set_cons_succ, hd_]; rfl)) (Below.refl _ _) rfl (fun h => by cases h)
    · intro w0_ hF_ hd_ Q_ K_ hK_
      have hc0_ := (bcell hF_).1
      have hf0_ := (bcell hF_).2
      have hz0_ := hF_.size; (try simp at hz0_)
      (try simp at hc0_ hf0_)
      have : rb < w0_.heap.size := by omega
      have : g2 < w0_.heap.size := by omega
      simp only [DepsR, Region.binds, Nat.zero_add, Nat.reduceAdd, true_implies, Bool.false_eq_true, false_implies, and_true, true_and, BEq.rfl, reduceCtorEq] at hd_
      go_simp
      exact hK_.out _ _ _ (by first | rfl | (simp only [Act.put, List.setIfInBounds_toArray, List.set_cons_zero, List.set_cons_succ, hd_]; done) | (simp only [Act.put, List.setIfInBounds_toArray, List.set_cons_zero, List.set_cons_succ, hd_]; rfl)) (Below.refl _ _) rfl (fun h => by cases h)
    · intro w0_ hF_ hd_ Q_ K_ hK_
      have hc0_ := (bcell hF_).1
      have hf0_ := (bcell hF_).2
      have hz0_ := hF_.size; (try simp at hz0_)
      (try simp at hc0_ hf0_)
      have : rb < w0_.heap.size := by omega
      have : g2 < w0_.heap.size := by omega
      simp only [DepsR, Region.binds, Nat.zero_add, Nat.reduceAdd, true_implies, Bool.false_eq_true, false_implies, and_true, true_and, BEq.rfl, reduceCtorEq] at hd_
      go_simp
      refine (HBB.out _ (below_on HBW.out hF_)).mono ?_
      rintro e_ w1_ ⟨v_, rfl, hr_, hb_⟩
      exact hK_.out _ _ _ (by first | rfl | (simp only [Act.put, List.setIfInBounds_toArray, List.set_cons_zero, List.set_cons_succ, hd_]; done) | (simp only [Act.put, List.setIfInBounds_toArray, List.set_cons_zero, List.set_cons_succ, hd_]; rfl)) hb_ hr_ (fun h => by cases h)
    · intro w0_ hF_ hd_ Q_ K_ hK_
      have hc0_ := (bcell hF_).1
      have hf0_ := (bcell hF_).2
      have hz0_ := hF_.size; (try simp at hz0_)
      (try simp at hc0_ hf0_)
      have : rb < w0_.heap.size := by omega
      have : g2 < w0_.heap.size := by omega
      simp only [DepsR, Region.binds, Nat.zero_add, Nat.reduceAdd, true_implies, Bool.false_eq_true, false_implies, and_true, true_and, BEq.rfl, reduceCtorEq] at hd_
      obtain ⟨b_, hv_, h1_, h2_⟩ : BrkC B0 a cc (vs 8) w0_ := by simp only [hd_]
      go_simp
      exact hK_.out _ _ _ (by first | rfl | (simp only [Act.put, List.setIfInBounds_toArray, List.set_cons_zero, List.set_cons_succ, hd_, hv_]; done) | (simp only [Act.put, List.setIfInBounds_toArray, List.set_cons_zero, List.set_cons_succ, hv_]; done) | (simp [Act.put, hv_]; done)) (Below.refl _ _) ⟨b_, rfl, h1_, h2_⟩ (fun h => by cases h)
    · intro w0_ hF_ hd_ Q_ K_ hK_
      have hc0_ := (bcell hF_).1
      have hf0_ := (bcell hF_).2
      have hz0_ := hF_.size; (try simp at hz0_)
      (try simp at hc0_ hf0_)
      have : rb < w0_.heap.size := by omega
      have : g2 < w0_.heap.size := by omega
      simp only [DepsR, Region.binds, Nat.zero_add, Nat.reduceAdd, true_implies, Bool.false_eq_true, false_implies, and_true, true_and, BEq.rfl, reduceCtorEq] at hd_
      obtain ⟨b_, hv_, h1_, h2_⟩ : BrkC B0 a cc (vs 9) w0_ := by simp only [hd_]
      go_simp
      exact hK_.out _ _ _ (by first | rfl | (simp only [Act.put, List.setIfInBounds_toArray, List.set_cons_zero, List.set_cons_succ, hd_, hv_]; done) | (simp only [Act.put, List.setIfInBounds_toArray, List.set_cons_zero, List.set_cons_succ, hv_]; done) | (simp [Act.put, hv_]; done)) (Below.refl _ _) rfl (fun h => by cases h)
    · intro w0_ hF_ hd_ Q_ K_ hK_
      have hc0_ := (bcell hF_).1
      have hf0_ := (bcell hF_).2
      have hz0_ := hF_.size; (try simp at hz0_)
      (try simp at hc0_ hf0_)
      have : rb < w0_.heap.size := by omega
      have : g2 < w0_.heap.size := by omega
      simp only [DepsR, Region.binds, Nat.zero_add, Nat.reduceAdd, true_implies, Bool.false_eq_true, false_implies, and_true, true_and, BEq.rfl, reduceCtorEq] at hd_
      obtain ⟨b_, hv_, h1_, h2_⟩ : BrkC B0 a cc (vs 9) w0_ := by simp only [hd_]
      go_simp
      exact hK_.out _ _ _ (by first | rfl | (simp only [Act.put, List.setIfInBounds_toArray, List.set_cons_zero, List.set_cons_succ, hd_, hv_]; done) | (simp only [Act.put, List.setIfInBounds_toArray, List.set_cons_zero, List.set_cons_succ, hv_]; done) | (simp [Act.put, hv_]; done)) (Below.refl _ _) rfl (fun h => by cases h)
    · intro w0_ hF_ hd_ Q_ K_ hK_
      have hc0_ := (bcell hF_).1
      have hf0_ := (bcell hF_).2
      have hz0_ := hF_.size; (try simp at hz0_)
      (try simp at hc0_ hf0_)
      have : rb < w0_.heap.size := by omega
      have : g2 < w0_.heap.size := by omega
      simp only [DepsR, Region.binds, Nat.zero_add, Nat.reduceAdd, true_implies, Bool.false_eq_true, false_implies, and_true, true_and, BEq.rfl, reduceCtorEq] at hd_
      obtain ⟨b_, hv_, h1_, h2_⟩ : BrkC B0 a cc (vs 9) w0_ := by simp only [hd_]
      go_simp
      exact hK_.out _ _ _ (by first | rfl | (simp only [Act.put, List.setIfInBounds_toArray, List.set_cons_zero, List.set_cons_succ, hd_, hv_]; done) | (simp only [Act.put, List.setIfInBounds_toArray, List.set_cons_zero, List.set_cons_succ, hv_]; done) | (simp [Act.put, hv_]; done)) (Below.refl _ _) ⟨b_, rfl, h1_, h2_⟩ (fun h => by cases h)
    · intro w0_ hF_ hd_ Q_ K_ hK_
      have hc0_ := (bcell hF_).1
      have hf0_ := (bcell hF_).2
      have hz0_ := hF_.size; (try simp at hz0_)
      (try simp at hc0_ hf0_)
      have : rb < w0_.heap.size := by omega
      have : g2 < w0_.heap.size := by omega
      simp only [DepsR, Region.binds, Nat.zero_add, Nat.reduceAdd, true_implies, Bool.false_eq_true, false_implies, and_true, true_and, BEq.rfl, reduceCtorEq] at hd_
      go_simp
      exact hK_.out _ _ _ (by first | rfl | (simp only [Act.put, List.setIfInBounds_toArray, List.set_cons_zero, List.set_cons_succ, hd_]; done) | (simp only [Act.put, List.setIfInBounds_toArray, List.set_cons_zero, List.set_cons_succ, hd_]; rfl)) ((Below.refl _ _).alloc (Nat.le_refl _) _) ⟨_, _, rfl, by omega, rfl, Lies.fresh _ _ _⟩ (fun _ => ⟨_, rfl, Nat.le_refl _⟩)
    · intro w0_ hF_ hd_ Q_ K_ hK_
      have hc0_ := (bcell hF_).1
      have hf0_ := (bcell hF_).2
      have hz0_ := hF_.size; (try simp at hz0_)
      (try simp at hc0_ hf0_)
      have : rb < w0_.heap.size := by omega
      have : g2 < w0_.heap.size := by omega
      simp only [DepsR, Region.binds, Nat.zero_add, Nat.reduceAdd, true_implies, Bool.false_eq_true, false_implies, and_true, true_and, BEq.rfl, reduceCtorEq] at hd_
      obtain ⟨b_, cs_, hv_, hB_, hn_, hl_⟩ : NewR (w1.heap.size) 26 4 (vs 13) w0_ := by simp only [hd_]
      obtain ⟨c0_, c1_, c2_, c3_, rfl⟩ := size4 hn_
      obtain ⟨k0_, k1_, k2_, k3_, f0_, f1_, f2_, f3_⟩ := hl_.cells4
      go_simp
      refine hK_.out _ undef _ (by first | rfl | (simp only [Act.put, List.setIfInBounds_toArray, List.set_cons_zero, List.set_cons_succ, hd_, hv_]; done) | (simp only [Act.put, List.setIfInBounds_toArray, List.set_cons_zero, List.set_cons_succ, hd_, hv_]; rfl)) ⟨?_, fun j_ hj_ hd2_ h_ => ?_⟩ ⟨b_, by simpa using hv_, hl_.put4 _ _ _ _⟩ (fun h => by cases h)
      · refine Below.setCell ?_ (by simp; omega) _; refine Below.setCell ?_ (by simp; omega) _; refine Below.setCell ?_ (by simp; omega) _; refine Below.setCell ?_ (by simp; omega) _; exact hF_
      · (try dsimp only at h_ hd2_ ⊢)
        split at h_ <;> first | (with_reducible exact h_) | (exact NewR.far4 h_ hv_ (hd2_ rfl rfl (by decide)) _ _ _ _) | (exact HasR.far4 h_ hv_ (hd2_ rfl rfl (by decide)) _ _ _ _) | exact ⟨b_, _, by simpa using hv_, hB_, rfl, hl_.put4 _ _ _ _⟩ | (first | exact BrkC.far4 h_ hl_ (by decide) _ _ _ _ | exact FltC.far4 h_ hl_ (by decide) _ _ _ _) | trivial | exact h_
    · intro w0_ hF_ hd_ Q_ K_ hK_
      have hc0_ := (bcell hF_).1
      have hf0_ := (bcell hF_).2
      have hz0_ := hF_.size; (try simp at hz0_)
      (try simp at hc0_ hf0_)
      have : rb < w0_.heap.size := by omega
      have : g2 < w0_.heap.size := by omega
      simp only [DepsR, Region.binds, Nat.zero_add, Nat.reduceAdd, true_implies, Bool.false_eq_true, false_implies, and_true, true_and, BEq.rfl, reduceCtorEq] at hd_
      go_simp
      exact hK_.out _ _ _ (by first | rfl | (simp only [Act.put, List.setIfInBounds_toArray, List.set_cons_zero, List.set_cons_succ, hd_]; done) | (simp only [Act.put, List.setIfInBounds_toArray, List.set_cons_zero, List.set_cons_succ, hd_]; rfl)) (Below.refl _ _) rfl (fun h => by cases h)
    · intro w0_ hF_ hd_ Q_ K_ hK_
      have hc0_ := (bcell hF_).1
      have hf0_ := (bcell hF_).2
      have hz0_ := hF_.size; (try simp at hz0_)
      (try simp at hc0_ hf0_)
      have : rb < w0_.heap.size := by omega
      have : g2 < w0_.heap.size := by omega
      simp only [DepsR, Region.binds, Nat.zero_add, Nat.reduceAdd, true_implies, Bool.false_eq_true, false_implies, and_true, true_and, BEq.rfl, reduceCtorEq] at hd_
      obtain ⟨b_, hv_, h1_, h2_⟩ : FltC B0 a cc (vs 12) w0_ := by simp only [hd_]
      go_simp
      exact hK_.out _ _ _ (by first | rfl | (simp only [Act.put, List.setIfInBounds_toArray, List.set_cons_zero, List.set_cons_succ, hd_, hv_]; done) | (simp only [Act.put, List.setIfInBounds_toArray, List.set_cons_zero, List.set_cons_succ, hv_]; done) | (simp [Act.put, hv_]; done)) (Below.refl _ _) ⟨b_, rfl, h1_, h2_⟩ (fun h => by cases h)
  · intro vs w3 hBw3 hA_ hD_
    simp only [AllR, Nat.zero_add, Nat.reduceAdd, and_true] at hA_
    obtain ⟨r0_, r1_, r2_, r3_, r4_, r5_, r6_, r7_, r8_, r9_, r10_, r11_, r12_, r13_, r14_, r15_, r16_⟩ := hA_
    obtain ⟨b13w3, e13_, l13⟩ := r14_
    obtain ⟨b_, cs_, e_, hb13, n_, l_⟩ := r13_
    obtain rfl : b13w3 = b_ := by have := e_.symm.trans e13_; simpa using this.symm
    clear e_ n_ l_
    clear hD_
    simp only [putAll, Act.put, List.setIfInBounds_toArray, List.set_cons_zero, List.set_cons_succ, Nat.zero_add, Nat.reduceAdd, r0_, r1_, r2_, r3_, r4_, r5_, r6_, r7_, r10_, r11_, r15_, e13_]
    clear r0_ r1_ r2_ r3_ r4_ r5_ r6_ r7_ r10_ r11_ r15_ e13_
    obtain ⟨hcw3, hfw3⟩ := bcell hBw3; (try simp only [World.size_drew, World.cell?_drew, World.frozen?_drew] at hcw3 hfw3); have hzw3 := hBw3.size; (try simp at hzw3)
    have : rb < w3.heap.size := by omega
    have : g2 < w3.heap.size := by omega
    obtain ⟨k13_0, k13_1, k13_2, k13_3, f13_0, f13_1, f13_2, f13_3⟩ := l13.cells4
    have : b13w3 < w3.heap.size := l13.lt
    obtain ⟨b, hv, hb1, hb2⟩ := r16_
    obtain ⟨b8, hv8, hb81, hb82⟩ := r8_
    obtain ⟨b9, hv9, hb91, hb92⟩ := r9_
    obtain ⟨b12, hv12, hb121, hb122⟩ := r12_
    simp only [hv, hv8, hv9, hv12]
    clear hv hv8 hv9 hv12 hb81 hb82 hb91 hb92 hb121 hb122
    have HFB := Lib.hid hb2
    have HBG := Lib.hid hb1
    clear hb1 hb2
    have r2' := Lib.hid (r2.out.on hBw3)
    have R1' : Hid (RD w3 rb (.slice p l.length cp) k o) := R1.out.on hBw3
    have K1' := Lib.hid (K1.out.then hBw3 K1.out.size)
    have E1' := Lib.hid (E1.out.on (Kept.of hBw3))
    have hsz := Lib.hid hBw3.size
    have hrw : rb < w1.heap.size := R1.out.lt
    clear r2 R1 K1 E1 c0 c1 c2 z1 z2 hlt1 hcw3 hfw3 hBw3 HBB HBW hzw3
    have r2 := r2'
    have R1 := R1'
    have K1 := K1'
    have E1 := E1'
    clear r2' R1' K1' E1'
    have c0 : w3.cell? ⟨rb, 0, none⟩ = some (.slice p l.length cp) := R1.out.cell 0
    have c1 : w3.cell? ⟨rb, 1, none⟩ = some (.int .i64 ((k : Nat) : Int)) := R1.out.cell 1
    have c2 : w3.cell? ⟨rb, 2, none⟩ = some (.int .i64 ((o : Nat) : Int)) := R1.out.cell 2
    have z1 : w3.frozen? ⟨rb, 1, none⟩ = false := R1.out.froz 1
    have z2 : w3.frozen? ⟨rb, 2, none⟩ = false := R1.out.froz 2
    have hlt1 := R1.out.lt
    have HR4 := r2
    obtain ⟨j0, j1, j2, j3, j4, j5, j6, j7, f0, f1, f2, f3, f4, f5, f6, f7, z4⟩ := r2.out.eight
    have R5 := Lib.hid (r2.out.setRow_same zeroPA)
    have hbg2 : Hid (b ≠ g2) := by
      show b ≠ g2
      rintro rfl
      have e := HFB.out.symm.trans HR4.out
      simp at e
    have F5 : Hid (FRow (w3.setRow g2 zeroPA) b a cc) := HFB.out.setRow hbg2.out _
    have D5 : Hid (RD (w3.setRow g2 zeroPA) rb (.slice p l.length cp) k o) := R1.out.setRow (by omega) _
    have K5 : Hid (Kept rb w.heap.size w (w3.setRow g2 zeroPA)) := K1.out.setRow (Or.inl hg2B.out) _
    have hbr : Hid (b ≠ rb) := by
      show b ≠ rb
      rintro rfl
      have e := HFB.out.symm.trans R1.out
      simp at e
    clear r2 R1 K1 E1
    go_wp2
    rw [set8 HR4.out]
    exact bodyPost_ret (pret rfl R5.out rfl rfl rfl) rfl ⟨zeroPA, _, rfl, ⟨rfl, _, rfl, by rw [← HB0.out]; exact HBG.out, hbr.out, F5.out⟩, ⟨k, o, D5.out⟩, K5.out⟩
end Go.Proofs.Ytfmekmbdienbjaa
