/- The statements' same: a set and the document's, byte by byte. -/
import Derived.Test.YtfmekmbdienbjaaDoorSetM
import Derived.Test.YtfmekmbdienbjaaDoorLinD
namespace Go.Proofs.YtfmekmbdienbjaaDoor
set_option linter.unusedSimpArgs false
set_option linter.unusedVariables false
set_option linter.unnecessarySimpa false
open Go.RowKit

set_option maxRecDepth 100000 in
set_option maxHeartbeats 8000000 in
theorem same_u (p : Nat → Bool) (cs : Array Value) (hcs : ∀ k, k < 256 → cs[k]? = some (.bool (p k))) (w : World) :
    Calls Tryd.prog 10 #[setV p, .agg cs] w fun e w' => e = .returned (.bool true) ∧ Below w.heap.size w w' := by
  have HI : Hid (∀ k : Nat, k < 256 → ∀ W, Calls Tryd.prog 21 #[setV p, .int .u8 (k : Int)] W fun e w' => e = .returned (.bool (p k)) ∧ Below W.heap.size W w') := by
    intro k hk W
    have := has_u p (UInt8.ofNat k) W
    have e : (UInt8.ofNat k).toNat = k := by rw [UInt8.toNat_ofNat']; omega
    unfold bv at this
    rwa [e] at this
  have HC := Lib.hid hcs
  clear hcs
  go_enter Tryd.func10, Tryd.ntmps10
  go_upto_region 1 with fail
  have ra : Row ((w.alloc (.cells (setA p) 26)).alloc (.cells cs 32)) w.heap.size 26 (setA p) := (Row.new w _ _).alloc _
  have rb : Row ((w.alloc (.cells (setA p) 26)).alloc (.cells cs 32)) (w.heap.size + 1) 32 cs := Row.new (w.alloc (.cells (setA p) 26)) _ _ |> (by simpa using ·)
  have hB : Below w.heap.size w ((w.alloc (.cells (setA p) 26)).alloc (.cells cs 32)) := by repeat (first | (with_reducible exact Below.refl _ _) | (with_reducible refine Below.drew ?_) | (refine Below.setCell ?_ (by first | exact Nat.le_refl _ | (simp; done) | (simp; omega) | omega) _) | (refine Below.alloc ?_ (by first | exact Nat.le_refl _ | (simp; done) | (simp; omega) | omega) _) | (refine Below.trans ?_ (Below.mono (by assumption) (by first | exact Nat.le_refl _ | (simp; done) | (simp; omega) | omega))))
  generalize ((w.alloc (.cells (setA p) 26)).alloc (.cells cs 32)) = w1 at *
  go_wp2
  go_loopw [5] (fun i wr => ∃ k : Nat, k ≤ 256 ∧ i = .int .i64 (k : Int) ∧ Row wr w.heap.size 26 (setA p) ∧ Row wr (w.heap.size + 1) 32 cs ∧ Below w.heap.size w wr) (fun i _ => 256 - (intOf i).toNat)
  case atStart => exact ⟨0, by omega, rfl, ra, rb, hB⟩
  case round =>
    obtain ⟨k, hk, rfl, r, rx, hBr⟩ := hrel
    by_cases hlt : k < 256
    · have HH := Lib.hid (HI.out k hlt)
      have hlt' : (k : Int) < 256 := by omega
      have hge : (0 : Int) ≤ (k : Int) := by omega
      have w8 : IntKind.u8.wrap (k : Int) = (k : Int) := by rw [IntKind.wrap_u8]; omega
      have kx := (rx.cell k).trans (HC.out k hlt)
      have RR := Lib.hid (And.intro r (And.intro rx hBr))
      have yx := rx.lt
      obtain ⟨j0, j1, j2, j3, f0, f1, f2, f3, zr⟩ := r.four
      clear f0 f1 f2 f3 r rx
      generalize p k = b at *
      have hbb : (b != b) = false := by cases b <;> rfl
      go_upto_region 4 with fail
      refine wp_region_keep (t := fun j => j) (al := fun _ => false) (loud := fun _ => false)
        (R := fun j v u w' => match j with
          | 0 => v = setV p
          | 1 => v = .int .i64 (k : Int)
          | 2 => v = .int .u8 (k : Int)
          | 3 => v = .bool b
          | 4 => v = .int .i64 (k : Int)
          | 5 => v = .pointer (some ⟨w.heap.size + 1, k, none⟩)
          | 6 => v = .bool b
          | 7 => v = .bool false
          | _ => True) (by kernel_rfl) (by kernel_rfl) (by kernel_rfl) ?_ ?_ ?_ ?_
      · intro j v u w1_ w2_ h_ hF_ hB_
        (try dsimp only at h_ ⊢)
        split at h_ <;> first | (with_reducible exact h_) | (with_reducible exact NewR.on h_ hB_) | (with_reducible exact HasR.on h_ hB_) | exact IsNum.on h_ hB_ | exact HasNum.on h_ hB_ | exact RHeld.on h_ hB_ | trivial | exact h_
      · intro j v u w1_ h1_ h_
        cases h1_
      · intro vs
        simp only [putAll, Act.put, List.setIfInBounds_toArray, List.set_cons_zero, List.set_cons_succ, Nat.zero_add, Nat.reduceAdd]
        refine ⟨?_, ?_, ?_, ?_, ?_, ?_, ?_, ?_, trivial⟩
        · intro w0_ hF_ hd_ Q_ K_ hK_
          have hc0_ := (bcell hF_).1
          have hf0_ := (bcell hF_).2
          have hz0_ := hF_.size; (try simp at hz0_)
          (try simp at hc0_ hf0_)
          have : w.heap.size < w0_.heap.size := by omega
          have : w.heap.size + 1 < w0_.heap.size := by omega
          simp only [DepsR, Region.binds, Nat.zero_add, Nat.reduceAdd, true_implies, Bool.false_eq_true, false_implies, and_true, true_and, BEq.rfl, reduceCtorEq] at hd_
          go_simp
          exact hK_.out _ _ _ (by first | rfl | (simp only [Act.put, List.setIfInBounds_toArray, List.set_cons_zero, List.set_cons_succ, hd_]; done) | (simp only [Act.put, List.setIfInBounds_toArray, List.set_cons_zero, List.set_cons_succ, hd_]; rfl)) (Below.refl _ _) rfl (fun h => by cases h)
        · intro w0_ hF_ hd_ Q_ K_ hK_
          have hc0_ := (bcell hF_).1
          have hf0_ := (bcell hF_).2
          have hz0_ := hF_.size; (try simp at hz0_)
          (try simp at hc0_ hf0_)
          have : w.heap.size < w0_.heap.size := by omega
          have : w.heap.size + 1 < w0_.heap.size := by omega
          simp only [DepsR, Region.binds, Nat.zero_add, Nat.reduceAdd, true_implies, Bool.false_eq_true, false_implies, and_true, true_and, BEq.rfl, reduceCtorEq] at hd_
          go_simp
          exact hK_.out _ _ _ (by first | rfl | (simp only [Act.put, List.setIfInBounds_toArray, List.set_cons_zero, List.set_cons_succ, hd_]; done) | (simp only [Act.put, List.setIfInBounds_toArray, List.set_cons_zero, List.set_cons_succ, hd_]; rfl)) (Below.refl _ _) rfl (fun h => by cases h)
        · intro w0_ hF_ hd_ Q_ K_ hK_
          have hc0_ := (bcell hF_).1
          have hf0_ := (bcell hF_).2
          have hz0_ := hF_.size; (try simp at hz0_)
          (try simp at hc0_ hf0_)
          have : w.heap.size < w0_.heap.size := by omega
          have : w.heap.size + 1 < w0_.heap.size := by omega
          simp only [DepsR, Region.binds, Nat.zero_add, Nat.reduceAdd, true_implies, Bool.false_eq_true, false_implies, and_true, true_and, BEq.rfl, reduceCtorEq] at hd_
          go_simp
          exact hK_.out _ _ _ (by first | rfl | (simp only [Act.put, List.setIfInBounds_toArray, List.set_cons_zero, List.set_cons_succ, hd_]; done) | (simp only [Act.put, List.setIfInBounds_toArray, List.set_cons_zero, List.set_cons_succ, hd_]; rfl)) (Below.refl _ _) rfl (fun h => by cases h)
        · intro w0_ hF_ hd_ Q_ K_ hK_
          have hc0_ := (bcell hF_).1
          have hf0_ := (bcell hF_).2
          have hz0_ := hF_.size; (try simp at hz0_)
          (try simp at hc0_ hf0_)
          have : w.heap.size < w0_.heap.size := by omega
          have : w.heap.size + 1 < w0_.heap.size := by omega
          simp only [DepsR, Region.binds, Nat.zero_add, Nat.reduceAdd, true_implies, Bool.false_eq_true, false_implies, and_true, true_and, BEq.rfl, reduceCtorEq] at hd_
          go_simp
          refine (HH.out _).mono ?_
          rintro e_ w1_ ⟨rfl, hb_⟩
          exact hK_.out _ _ _ (by first | rfl | (simp only [Act.put, List.setIfInBounds_toArray, List.set_cons_zero, List.set_cons_succ, hd_]; done) | (simp only [Act.put, List.setIfInBounds_toArray, List.set_cons_zero, List.set_cons_succ, hd_]; rfl)) hb_ rfl (fun h => by cases h)
        · intro w0_ hF_ hd_ Q_ K_ hK_
          have hc0_ := (bcell hF_).1
          have hf0_ := (bcell hF_).2
          have hz0_ := hF_.size; (try simp at hz0_)
          (try simp at hc0_ hf0_)
          have : w.heap.size < w0_.heap.size := by omega
          have : w.heap.size + 1 < w0_.heap.size := by omega
          simp only [DepsR, Region.binds, Nat.zero_add, Nat.reduceAdd, true_implies, Bool.false_eq_true, false_implies, and_true, true_and, BEq.rfl, reduceCtorEq] at hd_
          go_simp
          exact hK_.out _ _ _ (by first | rfl | (simp only [Act.put, List.setIfInBounds_toArray, List.set_cons_zero, List.set_cons_succ, hd_]; done) | (simp only [Act.put, List.setIfInBounds_toArray, List.set_cons_zero, List.set_cons_succ, hd_]; rfl)) (Below.refl _ _) rfl (fun h => by cases h)
        · intro w0_ hF_ hd_ Q_ K_ hK_
          have hc0_ := (bcell hF_).1
          have hf0_ := (bcell hF_).2
          have hz0_ := hF_.size; (try simp at hz0_)
          (try simp at hc0_ hf0_)
          have : w.heap.size < w0_.heap.size := by omega
          have : w.heap.size + 1 < w0_.heap.size := by omega
          simp only [DepsR, Region.binds, Nat.zero_add, Nat.reduceAdd, true_implies, Bool.false_eq_true, false_implies, and_true, true_and, BEq.rfl, reduceCtorEq] at hd_
          go_simp
          exact hK_.out _ _ _ (by first | rfl | (simp only [Act.put, List.setIfInBounds_toArray, List.set_cons_zero, List.set_cons_succ, hd_]; done) | (simp only [Act.put, List.setIfInBounds_toArray, List.set_cons_zero, List.set_cons_succ, hd_]; rfl)) (Below.refl _ _) rfl (fun h => by cases h)
        · intro w0_ hF_ hd_ Q_ K_ hK_
          have hc0_ := (bcell hF_).1
          have hf0_ := (bcell hF_).2
          have hz0_ := hF_.size; (try simp at hz0_)
          (try simp at hc0_ hf0_)
          have : w.heap.size < w0_.heap.size := by omega
          have : w.heap.size + 1 < w0_.heap.size := by omega
          simp only [DepsR, Region.binds, Nat.zero_add, Nat.reduceAdd, true_implies, Bool.false_eq_true, false_implies, and_true, true_and, BEq.rfl, reduceCtorEq] at hd_
          go_simp
          exact hK_.out _ _ _ (by first | rfl | (simp only [Act.put, List.setIfInBounds_toArray, List.set_cons_zero, List.set_cons_succ, hd_]; done) | (simp only [Act.put, List.setIfInBounds_toArray, List.set_cons_zero, List.set_cons_succ, hd_]; rfl)) (Below.refl _ _) rfl (fun h => by cases h)
        · intro w0_ hF_ hd_ Q_ K_ hK_
          have hc0_ := (bcell hF_).1
          have hf0_ := (bcell hF_).2
          have hz0_ := hF_.size; (try simp at hz0_)
          (try simp at hc0_ hf0_)
          have : w.heap.size < w0_.heap.size := by omega
          have : w.heap.size + 1 < w0_.heap.size := by omega
          simp only [DepsR, Region.binds, Nat.zero_add, Nat.reduceAdd, true_implies, Bool.false_eq_true, false_implies, and_true, true_and, BEq.rfl, reduceCtorEq] at hd_
          go_simp
          exact hK_.out _ _ _ (by first | rfl | (simp only [Act.put, List.setIfInBounds_toArray, List.set_cons_zero, List.set_cons_succ, hd_]; done) | (simp only [Act.put, List.setIfInBounds_toArray, List.set_cons_zero, List.set_cons_succ, hd_]; rfl)) (Below.refl _ _) rfl (fun h => by cases h)
      · intro vs u2 hBu2 hA_ hD_
        simp only [AllR, Nat.zero_add, Nat.reduceAdd, and_true] at hA_
        obtain ⟨r0_, r1_, r2_, r3_, r4_, r5_, r6_, r7_⟩ := hA_
        clear hD_
        simp only [putAll, Act.put, List.setIfInBounds_toArray, List.set_cons_zero, List.set_cons_succ, Nat.zero_add, Nat.reduceAdd, r0_, r1_, r2_, r3_, r4_, r5_, r6_, r7_]
        clear r0_ r1_ r2_ r3_ r4_ r5_ r6_ r7_
        obtain ⟨hcu2, hfu2⟩ := bcell hBu2; (try simp only [World.size_drew, World.cell?_drew, World.frozen?_drew] at hcu2 hfu2); have hzu2 := hBu2.size; (try simp at hzu2)
        have : w.heap.size < u2.heap.size := by omega
        have : w.heap.size + 1 < u2.heap.size := by omega
        go_wp2
        go_roundw
        case rel => exact ⟨k + 1, by omega, by go_num, RR.out.1.on hBu2, RR.out.2.1.on hBu2, RR.out.2.2.trans (hBu2.mono RR.out.2.2.size)⟩
        case measure => simp [intOf]; omega
    · have hj1 : ¬ (k : Int) < 256 := by omega
      go_wp2
      go_ret
      exact ⟨rfl, hBr⟩
end Go.Proofs.YtfmekmbdienbjaaDoor
