/- The walk of CharsetNots. -/
import Derived.Test.YtgigapmoooaaoaaSetNotsA
namespace Go.Proofs.Ytgigapmoooaaoaa
set_option linter.unusedSimpArgs false
set_option linter.unusedVariables false
set_option linter.unnecessarySimpa false
open Go.RowKit

theorem own_const (W : World) : Own8 (W.alloc (.cells #[.int .u8 91, .int .u8 94] 5 (2, 3))) W.heap.size (.slice (some ⟨W.heap.size, 0, none⟩) 2 2) [91, 94] := by
  refine ⟨W.heap.size, 2, rfl, Nat.le_refl _, by simp, Nat.le_refl _, by simp [maxLen], fun j hj => ?_, fun j hj hj2 => ?_⟩
  · rw [World.cell?_alloc_mark]
    rcases (by simp at hj; omega : j = 0 ∨ j = 1) with rfl | rfl <;> rfl
  · simp at hj; omega

set_option maxRecDepth 100000 in
set_option maxHeartbeats 16000000 in
theorem nots_ok (P Q : Nat → Bool) (n : Nat) (r : List UInt8) (x : UInt8) (bk off cp : Nat) (w : World) (hM : HM w)
    (HA : Hid (∀ W, HM W → Calls Try.prog 8 #[] W fun e w' => e = .returned (.bool true) ∧ Below W.heap.size W w'))
    (hl : r.length ≤ 198) (h : BS w (.slice (some ⟨bk, off, none⟩) (r.length + 2) cp) (91 :: x :: r)) (hx : x ≠ 94) (hbb : bk < w.heap.size) (k0 : w.cell? ⟨bk, off, none⟩ = some (.int .u8 91)) (k1 : w.cell? ⟨bk, off + 1, none⟩ = some (bv x))
    (hn : n ≤ 1000)
    (B1 : Hid (∀ W, Below w.heap.size w W → Calls Try.prog 18 #[.slice (some ⟨bk, off, none⟩) (r.length + 2) cp, .int .i64 0] W fun e w' => e = .returned (.tuple #[setV P, .int .i64 (n : Int), .nilIface]) ∧ Below W.heap.size W w'))
    (B2 : Hid (∀ W u, HM W → BS W u (91 :: 94 :: x :: r) → Calls Try.prog 18 #[u, .int .i64 0] W fun e w' => e = .returned (.tuple #[setV Q, .int .i64 ((n : Int) + 1), .nilIface]) ∧ Below W.heap.size W w'))
    (N1 : Hid (∀ W, Calls Try.prog 16 #[setV P] W fun e w' => e = .returned (setV Q) ∧ Below W.heap.size W w'))
    (E1 : ∀ w, (binOp .eql 25 (setV Q) (setV Q)).run Try.prog w = .ok (.bool true) w) :
    Calls Try.prog 5 #[.slice (some ⟨bk, off, none⟩) (r.length + 2) cp] w fun e w' => e = .returned (.bool true) ∧ Below w.heap.size w w' := by
  have H := Lib.hid h
  have hlen1 : decide ((200 : Int) < ((r.length : Int) + 2)) = false := decide_eq_false (by omega)
  have hlen2 : decide (((r.length : Int) + 2) < 2) = false := decide_eq_false (by omega)
  have hlen3 : (0 : Int) < (r.length : Int) + 2 := by omega
  have hlen4 : (1 : Int) < (r.length : Int) + 2 := by omega
  have hx' : ((x.toNat : Int) == 94) = false := by rw [beq_eq_false_iff_ne]; intro e; exact hx (UInt8.toNat_inj.1 (by show _ = 94; omega))
  have HC : Hid (r.length + 2 ≤ cp ∧ cp ≤ maxLen ∧ U8s w (some ⟨bk, off, none⟩) (91 :: x :: r)) := by
    obtain ⟨p', c', e, h1, h2, h3⟩ := h
    cases e
    exact ⟨h1, h2, h3⟩
  have hS := run_sub_from (some ⟨bk, off, none⟩) (r.length + 2) cp 1 (by omega)
  rw [show (((1 : Nat)) : Int) = 1 from rfl] at hS
  have HS : Hid (BS w (subV (some ⟨bk, off, none⟩) cp 1 (r.length + 2)) (x :: r)) := by
    have := subV_bs (w := w) HC.out.2.2 (by simpa using HC.out.1) HC.out.2.1 (i := 1) (j := r.length + 2) (by omega) (by simp)
    rwa [List.drop_succ_cons, List.drop_zero, List.take_of_length_le (by simp)] at this
  have kc := fun (w : World) (C : Array Value) (n c : Nat) => Lib.run_convert_bytes_const (P := Try.prog) w 38 5 C n c Try.underlying38 Try.underlying5
  have HM0 := Lib.hid hM
  clear h hM hx HC
  unfold bv at k1
  generalize subV (some ⟨bk, off, none⟩) cp 1 (r.length + 2) = sv at *
  go_enter Try.func5, Try.ntmps5
  go_wp2_with fail
  refine (HA.out _ HM0.out).mono ?_; rintro eu2 u2 ⟨rfl, hbu2⟩; obtain ⟨hcu2, hfu2⟩ := bcell hbu2; (try simp only [World.size_drew, World.cell?_drew, World.frozen?_drew] at hcu2 hfu2); have hzu2 := hbu2.size; (try simp at hzu2); (try dsimp only)
  have hbk2 : bk < u2.heap.size := by omega
  go_wp2_with fail
  have hBu2 : Below w.heap.size w u2 := hbu2
  clear k0 k1 hcu2 hfu2 hbu2
  refine (B1.out _ hBu2).mono ?_; rintro e u3 ⟨rfl, hb3⟩; (try dsimp only)
  have hBu3 : Below w.heap.size w u3 := hBu2.trans (hb3.mono hBu2.size)
  clear hb3
  go_upto_region 6 with fail
  have hsu3 : w.heap.size ≤ u3.heap.size := hBu3.size
  have ra : Row (u3.alloc (.cells (setA P) 25)) u3.heap.size 25 (setA P) := Row.new u3 _ _
  have hBu4 : Below w.heap.size w (u3.alloc (.cells (setA P) 25)) := by repeat (first | (with_reducible exact Below.refl _ _) | (with_reducible refine Below.drew ?_) | (refine Below.setCell ?_ (by first | exact Nat.le_refl _ | (simp; done) | (simp; omega) | omega) _) | (refine Below.alloc ?_ (by first | exact Nat.le_refl _ | (simp; done) | (simp; omega) | omega) _) | (refine Below.trans ?_ (Below.mono (by assumption) (by first | exact Nat.le_refl _ | (simp; done) | (simp; omega) | omega))))
  generalize (u3.alloc (.cells (setA P) 25)) = u4 at *
  have hs4 := hBu4.size
  have O1 : Hid (Own8 (u4.alloc (.cells #[.int .u8 91, .int .u8 94] 5 (2, 3))) u4.heap.size (.slice (some ⟨u4.heap.size, 0, none⟩) 2 2) [91, 94]) := own_const u4
  have U1 : Hid (BS (u4.alloc (.cells #[.int .u8 91, .int .u8 94] 5 (2, 3))) sv (x :: r)) := HS.out.on (hBu4.alloc hs4 _)
  have M1 : Hid (([91, 94] : List UInt8).length + (x :: r).length ≤ 1000000) := by show _ ≤ _; simp; omega
  have L1 : Hid (u4.heap.size ≤ (u4.alloc (.cells #[.int .u8 91, .int .u8 94] 5 (2, 3))).heap.size) := by show _ ≤ _; simp
  go_wp2_with (refine wpList_app8 _ rfl (.tmp 39) (.tmp 41) rfl u4.heap.size _ _ [91, 94] (x :: r) rfl rfl O1.out U1.out M1.out L1.out ?_; intro vx u5 ox hbx)
  have hBu5 : Below w.heap.size w u5 := hBu4.trans ((((Below.refl _ u4).alloc (Nat.le_refl _) _).trans hbx).mono hs4)
  have hB45 : Below u4.heap.size u4 u5 := ((Below.refl _ u4).alloc (Nat.le_refl _) _).trans hbx
  have X5 : Hid (BS u5 vx (91 :: 94 :: x :: r)) := ox.bs
  clear ox hbx O1 U1 M1 L1
  have ra := ra.on hB45
  refine (B2.out u5 vx (HM0.out.on hBu5) X5.out).mono ?_; rintro e u6 ⟨rfl, hb6⟩; (try dsimp only)
  have hBu6 : Below w.heap.size w u6 := hBu5.trans (hb6.mono hBu5.size)
  have ra := ra.on hb6
  clear hb6 hB45
  have wN : IntKind.i64.wrap ((n : Int) + 1) = (n : Int) + 1 := by rw [IntKind.wrap_i64]; omega
  go_upto_region 9 with fail
  have hsu6 : w.heap.size ≤ u6.heap.size := hBu6.size
  have rb : Row (u6.alloc (.cells (setA Q) 25)) u6.heap.size 25 (setA Q) := Row.new u6 _ _
  have hBu7 : Below w.heap.size w (u6.alloc (.cells (setA Q) 25)) := by repeat (first | (with_reducible exact Below.refl _ _) | (with_reducible refine Below.drew ?_) | (refine Below.setCell ?_ (by first | exact Nat.le_refl _ | (simp; done) | (simp; omega) | omega) _) | (refine Below.alloc ?_ (by first | exact Nat.le_refl _ | (simp; done) | (simp; omega) | omega) _) | (refine Below.trans ?_ (Below.mono (by assumption) (by first | exact Nat.le_refl _ | (simp; done) | (simp; omega) | omega))))
  have ra := ra.alloc (.cells (setA Q) 25)
  generalize (u6.alloc (.cells (setA Q) 25)) = u7 at *
  obtain ⟨j0, j1, j2, j3, f0, f1, f2, f3, z0⟩ := ra.four
  obtain ⟨m0, m1, m2, m3, g0, g1, g2, g3, y0⟩ := rb.four
  clear f0 f1 f2 f3 g0 g1 g2 g3 ra rb
  have hs6 := hBu6.size
  refine wp_region_keep (t := fun j => j) (al := fun _ => false) (loud := fun _ => false)
    (R := fun j v u w' => match j with
      | 0 => v = .nilIface
      | 1 => v = .bool true
      | 2 => v = .bool true
      | 3 => v = .int .i64 ((n : Int) + 1)
      | 4 => v = .int .i64 (n : Int)
      | 5 => v = .int .i64 ((n : Int) + 1)
      | 6 => v = .bool true
      | 7 => v = .bool true
      | 8 => v = .bool true
      | 9 => v = setV Q
      | 10 => v = setV P
      | 11 => v = setV Q
      | 12 => v = .bool true
      | 13 => v = .bool true
      | 14 => v = .bool true
      | _ => True) (by kernel_rfl) (by kernel_rfl) (by kernel_rfl) ?_ ?_ ?_ ?_
  · intro j v u w1_ w2_ h_ hF_ hB_
    (try dsimp only at h_ ⊢)
    split at h_ <;> first | (with_reducible exact h_) | (with_reducible exact NewR.on h_ hB_) | (with_reducible exact HasR.on h_ hB_) | exact IsNum.on h_ hB_ | exact HasNum.on h_ hB_ | exact RHeld.on h_ hB_ | trivial | exact h_
  · intro j v u w1_ h1_ h_
    cases h1_
  · intro vs
    simp only [putAll, Act.put, List.setIfInBounds_toArray, List.set_cons_zero, List.set_cons_succ, Nat.zero_add, Nat.reduceAdd]
    refine ⟨?_, ?_, ?_, ?_, ?_, ?_, ?_, ?_, ?_, ?_, ?_, ?_, ?_, ?_, ?_, trivial⟩
    · intro w0_ hF_ hd_ Q_ K_ hK_
      have hc0_ := (bcell hF_).1
      have hf0_ := (bcell hF_).2
      have hz0_ := hF_.size; (try simp at hz0_)
      (try simp at hc0_ hf0_)
      have : u3.heap.size < w0_.heap.size := by omega
      have : u6.heap.size < w0_.heap.size := by omega
      simp only [DepsR, Region.binds, Nat.zero_add, Nat.reduceAdd, true_implies, Bool.false_eq_true, false_implies, and_true, true_and, BEq.rfl, reduceCtorEq] at hd_
      go_simp
      exact hK_.out _ _ _ (by first | rfl | (simp only [Act.put, List.setIfInBounds_toArray, List.set_cons_zero, List.set_cons_succ, hd_]; done) | (simp only [Act.put, List.setIfInBounds_toArray, List.set_cons_zero, List.set_cons_succ, hd_]; rfl)) (Below.refl _ _) rfl (fun h => by cases h)
    · intro w0_ hF_ hd_ Q_ K_ hK_
      have hc0_ := (bcell hF_).1
      have hf0_ := (bcell hF_).2
      have hz0_ := hF_.size; (try simp at hz0_)
      (try simp at hc0_ hf0_)
      have : u3.heap.size < w0_.heap.size := by omega
      have : u6.heap.size < w0_.heap.size := by omega
      simp only [DepsR, Region.binds, Nat.zero_add, Nat.reduceAdd, true_implies, Bool.false_eq_true, false_implies, and_true, true_and, BEq.rfl, reduceCtorEq] at hd_
      go_simp
      exact hK_.out _ _ _ (by first | rfl | (simp only [Act.put, List.setIfInBounds_toArray, List.set_cons_zero, List.set_cons_succ, hd_]; done) | (simp only [Act.put, List.setIfInBounds_toArray, List.set_cons_zero, List.set_cons_succ, hd_]; rfl)) (Below.refl _ _) rfl (fun h => by cases h)
    · intro w0_ hF_ hd_ Q_ K_ hK_
      have hc0_ := (bcell hF_).1
      have hf0_ := (bcell hF_).2
      have hz0_ := hF_.size; (try simp at hz0_)
      (try simp at hc0_ hf0_)
      have : u3.heap.size < w0_.heap.size := by omega
      have : u6.heap.size < w0_.heap.size := by omega
      simp only [DepsR, Region.binds, Nat.zero_add, Nat.reduceAdd, true_implies, Bool.false_eq_true, false_implies, and_true, true_and, BEq.rfl, reduceCtorEq] at hd_
      go_simp
      exact hK_.out _ _ _ (by first | rfl | (simp only [Act.put, List.setIfInBounds_toArray, List.set_cons_zero, List.set_cons_succ, hd_]; done) | (simp only [Act.put, List.setIfInBounds_toArray, List.set_cons_zero, List.set_cons_succ, hd_]; rfl)) (Below.refl _ _) rfl (fun h => by cases h)
    · intro w0_ hF_ hd_ Q_ K_ hK_
      have hc0_ := (bcell hF_).1
      have hf0_ := (bcell hF_).2
      have hz0_ := hF_.size; (try simp at hz0_)
      (try simp at hc0_ hf0_)
      have : u3.heap.size < w0_.heap.size := by omega
      have : u6.heap.size < w0_.heap.size := by omega
      simp only [DepsR, Region.binds, Nat.zero_add, Nat.reduceAdd, true_implies, Bool.false_eq_true, false_implies, and_true, true_and, BEq.rfl, reduceCtorEq] at hd_
      go_simp
      exact hK_.out _ _ _ (by first | rfl | (simp only [Act.put, List.setIfInBounds_toArray, List.set_cons_zero, List.set_cons_succ, hd_]; done) | (simp only [Act.put, List.setIfInBounds_toArray, List.set_cons_zero, List.set_cons_succ, hd_]; rfl)) (Below.refl _ _) rfl (fun h => by cases h)
    · intro w0_ hF_ hd_ Q_ K_ hK_
      have hc0_ := (bcell hF_).1
      have hf0_ := (bcell hF_).2
      have hz0_ := hF_.size; (try simp at hz0_)
      (try simp at hc0_ hf0_)
      have : u3.heap.size < w0_.heap.size := by omega
      have : u6.heap.size < w0_.heap.size := by omega
      simp only [DepsR, Region.binds, Nat.zero_add, Nat.reduceAdd, true_implies, Bool.false_eq_true, false_implies, and_true, true_and, BEq.rfl, reduceCtorEq] at hd_
      go_simp
      exact hK_.out _ _ _ (by first | rfl | (simp only [Act.put, List.setIfInBounds_toArray, List.set_cons_zero, List.set_cons_succ, hd_]; done) | (simp only [Act.put, List.setIfInBounds_toArray, List.set_cons_zero, List.set_cons_succ, hd_]; rfl)) (Below.refl _ _) rfl (fun h => by cases h)
    · intro w0_ hF_ hd_ Q_ K_ hK_
      have hc0_ := (bcell hF_).1
      have hf0_ := (bcell hF_).2
      have hz0_ := hF_.size; (try simp at hz0_)
      (try simp at hc0_ hf0_)
      have : u3.heap.size < w0_.heap.size := by omega
      have : u6.heap.size < w0_.heap.size := by omega
      simp only [DepsR, Region.binds, Nat.zero_add, Nat.reduceAdd, true_implies, Bool.false_eq_true, false_implies, and_true, true_and, BEq.rfl, reduceCtorEq] at hd_
      go_simp
      exact hK_.out _ _ _ (by first | rfl | (simp only [Act.put, List.setIfInBounds_toArray, List.set_cons_zero, List.set_cons_succ, hd_]; done) | (simp only [Act.put, List.setIfInBounds_toArray, List.set_cons_zero, List.set_cons_succ, hd_]; rfl)) (Below.refl _ _) rfl (fun h => by cases h)
    · intro w0_ hF_ hd_ Q_ K_ hK_
      have hc0_ := (bcell hF_).1
      have hf0_ := (bcell hF_).2
      have hz0_ := hF_.size; (try simp at hz0_)
      (try simp at hc0_ hf0_)
      have : u3.heap.size < w0_.heap.size := by omega
      have : u6.heap.size < w0_.heap.size := by omega
      simp only [DepsR, Region.binds, Nat.zero_add, Nat.reduceAdd, true_implies, Bool.false_eq_true, false_implies, and_true, true_and, BEq.rfl, reduceCtorEq] at hd_
      go_simp
      exact hK_.out _ _ _ (by first | rfl | (simp only [Act.put, List.setIfInBounds_toArray, List.set_cons_zero, List.set_cons_succ, hd_]; done) | (simp only [Act.put, List.setIfInBounds_toArray, List.set_cons_zero, List.set_cons_succ, hd_]; rfl)) (Below.refl _ _) rfl (fun h => by cases h)
    · intro w0_ hF_ hd_ Q_ K_ hK_
      have hc0_ := (bcell hF_).1
      have hf0_ := (bcell hF_).2
      have hz0_ := hF_.size; (try simp at hz0_)
      (try simp at hc0_ hf0_)
      have : u3.heap.size < w0_.heap.size := by omega
      have : u6.heap.size < w0_.heap.size := by omega
      simp only [DepsR, Region.binds, Nat.zero_add, Nat.reduceAdd, true_implies, Bool.false_eq_true, false_implies, and_true, true_and, BEq.rfl, reduceCtorEq] at hd_
      go_simp
      exact hK_.out _ _ _ (by first | rfl | (simp only [Act.put, List.setIfInBounds_toArray, List.set_cons_zero, List.set_cons_succ, hd_]; done) | (simp only [Act.put, List.setIfInBounds_toArray, List.set_cons_zero, List.set_cons_succ, hd_]; rfl)) (Below.refl _ _) rfl (fun h => by cases h)
    · intro w0_ hF_ hd_ Q_ K_ hK_
      have hc0_ := (bcell hF_).1
      have hf0_ := (bcell hF_).2
      have hz0_ := hF_.size; (try simp at hz0_)
      (try simp at hc0_ hf0_)
      have : u3.heap.size < w0_.heap.size := by omega
      have : u6.heap.size < w0_.heap.size := by omega
      simp only [DepsR, Region.binds, Nat.zero_add, Nat.reduceAdd, true_implies, Bool.false_eq_true, false_implies, and_true, true_and, BEq.rfl, reduceCtorEq] at hd_
      go_simp
      exact hK_.out _ _ _ (by first | rfl | (simp only [Act.put, List.setIfInBounds_toArray, List.set_cons_zero, List.set_cons_succ, hd_]; done) | (simp only [Act.put, List.setIfInBounds_toArray, List.set_cons_zero, List.set_cons_succ, hd_]; rfl)) (Below.refl _ _) rfl (fun h => by cases h)
    · intro w0_ hF_ hd_ Q_ K_ hK_
      have hc0_ := (bcell hF_).1
      have hf0_ := (bcell hF_).2
      have hz0_ := hF_.size; (try simp at hz0_)
      (try simp at hc0_ hf0_)
      have : u3.heap.size < w0_.heap.size := by omega
      have : u6.heap.size < w0_.heap.size := by omega
      simp only [DepsR, Region.binds, Nat.zero_add, Nat.reduceAdd, true_implies, Bool.false_eq_true, false_implies, and_true, true_and, BEq.rfl, reduceCtorEq] at hd_
      go_simp
      exact hK_.out _ _ _ (by first | rfl | (simp only [Act.put, List.setIfInBounds_toArray, List.set_cons_zero, List.set_cons_succ, hd_]; done) | (simp only [Act.put, List.setIfInBounds_toArray, List.set_cons_zero, List.set_cons_succ, hd_]; rfl)) (Below.refl _ _) rfl (fun h => by cases h)
    · intro w0_ hF_ hd_ Q_ K_ hK_
      have hc0_ := (bcell hF_).1
      have hf0_ := (bcell hF_).2
      have hz0_ := hF_.size; (try simp at hz0_)
      (try simp at hc0_ hf0_)
      have : u3.heap.size < w0_.heap.size := by omega
      have : u6.heap.size < w0_.heap.size := by omega
      simp only [DepsR, Region.binds, Nat.zero_add, Nat.reduceAdd, true_implies, Bool.false_eq_true, false_implies, and_true, true_and, BEq.rfl, reduceCtorEq] at hd_
      go_simp
      exact hK_.out _ _ _ (by first | rfl | (simp only [Act.put, List.setIfInBounds_toArray, List.set_cons_zero, List.set_cons_succ, hd_]; done) | (simp only [Act.put, List.setIfInBounds_toArray, List.set_cons_zero, List.set_cons_succ, hd_]; rfl)) (Below.refl _ _) rfl (fun h => by cases h)
    · intro w0_ hF_ hd_ Q_ K_ hK_
      have hc0_ := (bcell hF_).1
      have hf0_ := (bcell hF_).2
      have hz0_ := hF_.size; (try simp at hz0_)
      (try simp at hc0_ hf0_)
      have : u3.heap.size < w0_.heap.size := by omega
      have : u6.heap.size < w0_.heap.size := by omega
      simp only [DepsR, Region.binds, Nat.zero_add, Nat.reduceAdd, true_implies, Bool.false_eq_true, false_implies, and_true, true_and, BEq.rfl, reduceCtorEq] at hd_
      go_simp
      refine (N1.out _).mono ?_
      rintro e_ w1_ ⟨rfl, hb_⟩
      exact hK_.out _ _ _ (by first | rfl | (simp only [Act.put, List.setIfInBounds_toArray, List.set_cons_zero, List.set_cons_succ, hd_]; done) | (simp only [Act.put, List.setIfInBounds_toArray, List.set_cons_zero, List.set_cons_succ, hd_]; rfl)) hb_ rfl (fun h => by cases h)
    · intro w0_ hF_ hd_ Q_ K_ hK_
      have hc0_ := (bcell hF_).1
      have hf0_ := (bcell hF_).2
      have hz0_ := hF_.size; (try simp at hz0_)
      (try simp at hc0_ hf0_)
      have : u3.heap.size < w0_.heap.size := by omega
      have : u6.heap.size < w0_.heap.size := by omega
      simp only [DepsR, Region.binds, Nat.zero_add, Nat.reduceAdd, true_implies, Bool.false_eq_true, false_implies, and_true, true_and, BEq.rfl, reduceCtorEq] at hd_
      go_simp
      exact hK_.out _ _ _ (by first | rfl | (simp only [Act.put, List.setIfInBounds_toArray, List.set_cons_zero, List.set_cons_succ, hd_]; done) | (simp only [Act.put, List.setIfInBounds_toArray, List.set_cons_zero, List.set_cons_succ, hd_]; rfl)) (Below.refl _ _) rfl (fun h => by cases h)
    · intro w0_ hF_ hd_ Q_ K_ hK_
      have hc0_ := (bcell hF_).1
      have hf0_ := (bcell hF_).2
      have hz0_ := hF_.size; (try simp at hz0_)
      (try simp at hc0_ hf0_)
      have : u3.heap.size < w0_.heap.size := by omega
      have : u6.heap.size < w0_.heap.size := by omega
      simp only [DepsR, Region.binds, Nat.zero_add, Nat.reduceAdd, true_implies, Bool.false_eq_true, false_implies, and_true, true_and, BEq.rfl, reduceCtorEq] at hd_
      go_simp
      exact hK_.out _ _ _ (by first | rfl | (simp only [Act.put, List.setIfInBounds_toArray, List.set_cons_zero, List.set_cons_succ, hd_]; done) | (simp only [Act.put, List.setIfInBounds_toArray, List.set_cons_zero, List.set_cons_succ, hd_]; rfl)) (Below.refl _ _) rfl (fun h => by cases h)
    · intro w0_ hF_ hd_ Q_ K_ hK_
      have hc0_ := (bcell hF_).1
      have hf0_ := (bcell hF_).2
      have hz0_ := hF_.size; (try simp at hz0_)
      (try simp at hc0_ hf0_)
      have : u3.heap.size < w0_.heap.size := by omega
      have : u6.heap.size < w0_.heap.size := by omega
      simp only [DepsR, Region.binds, Nat.zero_add, Nat.reduceAdd, true_implies, Bool.false_eq_true, false_implies, and_true, true_and, BEq.rfl, reduceCtorEq] at hd_
      go_simp
      exact hK_.out _ _ _ (by first | rfl | (simp only [Act.put, List.setIfInBounds_toArray, List.set_cons_zero, List.set_cons_succ, hd_]; done) | (simp only [Act.put, List.setIfInBounds_toArray, List.set_cons_zero, List.set_cons_succ, hd_]; rfl)) (Below.refl _ _) rfl (fun h => by cases h)
  · intro vs u8 hBu8 hA_ hD_
    simp only [AllR, Nat.zero_add, Nat.reduceAdd, and_true] at hA_
    obtain ⟨r0_, r1_, r2_, r3_, r4_, r5_, r6_, r7_, r8_, r9_, r10_, r11_, r12_, r13_, r14_⟩ := hA_
    clear hD_
    simp only [putAll, Act.put, List.setIfInBounds_toArray, List.set_cons_zero, List.set_cons_succ, Nat.zero_add, Nat.reduceAdd, r0_, r1_, r2_, r3_, r4_, r5_, r6_, r7_, r8_, r9_, r10_, r11_, r12_, r13_, r14_]
    clear r0_ r1_ r2_ r3_ r4_ r5_ r6_ r7_ r8_ r9_ r10_ r11_ r12_ r13_ r14_
    obtain ⟨hcu8, hfu8⟩ := bcell hBu8; (try simp only [World.size_drew, World.cell?_drew, World.frozen?_drew] at hcu8 hfu8); have hzu8 := hBu8.size; (try simp at hzu8)
    have : u3.heap.size < u8.heap.size := by omega
    have : u6.heap.size < u8.heap.size := by omega
    go_wp2
    go_ret
    exact ⟨rfl, hBu7.trans (hBu8.mono hBu7.size)⟩

set_option maxRecDepth 100000 in
set_option maxHeartbeats 16000000 in
theorem nots_bad (r : List UInt8) (x : UInt8) (bk off cp : Nat) (w : World) (hM : HM w)
    (HA : Hid (∀ W, HM W → Calls Try.prog 8 #[] W fun e w' => e = .returned (.bool true) ∧ Below W.heap.size W w'))
    (hl : r.length ≤ 198) (h : BS w (.slice (some ⟨bk, off, none⟩) (r.length + 2) cp) (91 :: x :: r)) (hx : x ≠ 94) (hbb : bk < w.heap.size) (k0 : w.cell? ⟨bk, off, none⟩ = some (.int .u8 91)) (k1 : w.cell? ⟨bk, off + 1, none⟩ = some (bv x))
    (B1 : Hid (∀ W, Below w.heap.size w W → Calls Try.prog 18 #[.slice (some ⟨bk, off, none⟩) (r.length + 2) cp, .int .i64 0] W fun e w' => (∃ b, e = .returned (.tuple #[zeroV, .int .i64 0, .iface 52 (.pointer (some ⟨b, 0, none⟩))])) ∧ Below W.heap.size W w'))
    (B2 : Hid (∀ W u, HM W → BS W u (91 :: 94 :: x :: r) → Calls Try.prog 18 #[u, .int .i64 0] W fun e w' => (∃ b, e = .returned (.tuple #[zeroV, .int .i64 0, .iface 52 (.pointer (some ⟨b, 0, none⟩))])) ∧ Below W.heap.size W w')) :
    Calls Try.prog 5 #[.slice (some ⟨bk, off, none⟩) (r.length + 2) cp] w fun e w' => e = .returned (.bool true) ∧ Below w.heap.size w w' := by
  have H := Lib.hid h
  have hlen1 : decide ((200 : Int) < ((r.length : Int) + 2)) = false := decide_eq_false (by omega)
  have hlen2 : decide (((r.length : Int) + 2) < 2) = false := decide_eq_false (by omega)
  have hlen3 : (0 : Int) < (r.length : Int) + 2 := by omega
  have hlen4 : (1 : Int) < (r.length : Int) + 2 := by omega
  have hx' : ((x.toNat : Int) == 94) = false := by rw [beq_eq_false_iff_ne]; intro e; exact hx (UInt8.toNat_inj.1 (by show _ = 94; omega))
  have HC : Hid (r.length + 2 ≤ cp ∧ cp ≤ maxLen ∧ U8s w (some ⟨bk, off, none⟩) (91 :: x :: r)) := by
    obtain ⟨p', c', e, h1, h2, h3⟩ := h
    cases e
    exact ⟨h1, h2, h3⟩
  have hS := run_sub_from (some ⟨bk, off, none⟩) (r.length + 2) cp 1 (by omega)
  rw [show (((1 : Nat)) : Int) = 1 from rfl] at hS
  have HS : Hid (BS w (subV (some ⟨bk, off, none⟩) cp 1 (r.length + 2)) (x :: r)) := by
    have := subV_bs (w := w) HC.out.2.2 (by simpa using HC.out.1) HC.out.2.1 (i := 1) (j := r.length + 2) (by omega) (by simp)
    rwa [List.drop_succ_cons, List.drop_zero, List.take_of_length_le (by simp)] at this
  have kc := fun (w : World) (C : Array Value) (n c : Nat) => Lib.run_convert_bytes_const (P := Try.prog) w 38 5 C n c Try.underlying38 Try.underlying5
  have HM0 := Lib.hid hM
  clear h hM hx HC
  unfold bv at k1
  generalize subV (some ⟨bk, off, none⟩) cp 1 (r.length + 2) = sv at *
  go_enter Try.func5, Try.ntmps5
  go_wp2_with fail
  refine (HA.out _ HM0.out).mono ?_; rintro eu2 u2 ⟨rfl, hbu2⟩; obtain ⟨hcu2, hfu2⟩ := bcell hbu2; (try simp only [World.size_drew, World.cell?_drew, World.frozen?_drew] at hcu2 hfu2); have hzu2 := hbu2.size; (try simp at hzu2); (try dsimp only)
  have hbk2 : bk < u2.heap.size := by omega
  go_wp2_with fail
  have hBu2 : Below w.heap.size w u2 := hbu2
  clear k0 k1 hcu2 hfu2 hbu2
  refine (B1.out _ hBu2).mono ?_; rintro e u3 ⟨⟨b1, rfl⟩, hb3⟩; (try dsimp only)
  have hBu3 : Below w.heap.size w u3 := hBu2.trans (hb3.mono hBu2.size)
  clear hb3
  go_upto_region 6 with fail
  have hsu3 := hBu3.size
  have hBu4 : Below w.heap.size w (u3.alloc (.cells zA 25)) := by repeat (first | (with_reducible exact Below.refl _ _) | (with_reducible refine Below.drew ?_) | (refine Below.setCell ?_ (by first | exact Nat.le_refl _ | (simp; done) | (simp; omega) | omega) _) | (refine Below.alloc ?_ (by first | exact Nat.le_refl _ | (simp; done) | (simp; omega) | omega) _) | (refine Below.trans ?_ (Below.mono (by assumption) (by first | exact Nat.le_refl _ | (simp; done) | (simp; omega) | omega))))
  generalize (u3.alloc (.cells zA 25)) = u4 at *
  have hs4 := hBu4.size
  have O1 : Hid (Own8 (u4.alloc (.cells #[.int .u8 91, .int .u8 94] 5 (2, 3))) u4.heap.size (.slice (some ⟨u4.heap.size, 0, none⟩) 2 2) [91, 94]) := own_const u4
  have U1 : Hid (BS (u4.alloc (.cells #[.int .u8 91, .int .u8 94] 5 (2, 3))) sv (x :: r)) := HS.out.on (hBu4.alloc hs4 _)
  have M1 : Hid (([91, 94] : List UInt8).length + (x :: r).length ≤ 1000000) := by show _ ≤ _; simp; omega
  have L1 : Hid (u4.heap.size ≤ (u4.alloc (.cells #[.int .u8 91, .int .u8 94] 5 (2, 3))).heap.size) := by show _ ≤ _; simp
  go_wp2_with (refine wpList_app8 _ rfl (.tmp 39) (.tmp 41) rfl u4.heap.size _ _ [91, 94] (x :: r) rfl rfl O1.out U1.out M1.out L1.out ?_; intro vx u5 ox hbx)
  have hBu5 : Below w.heap.size w u5 := hBu4.trans ((((Below.refl _ u4).alloc (Nat.le_refl _) _).trans hbx).mono hs4)
  have hB45 : Below u4.heap.size u4 u5 := ((Below.refl _ u4).alloc (Nat.le_refl _) _).trans hbx
  have X5 : Hid (BS u5 vx (91 :: 94 :: x :: r)) := ox.bs
  clear ox hbx O1 U1 M1 L1
  refine (B2.out u5 vx (HM0.out.on hBu5) X5.out).mono ?_; rintro e u6 ⟨⟨b2, rfl⟩, hb6⟩; (try dsimp only)
  have hBu6 : Below w.heap.size w u6 := hBu5.trans (hb6.mono hBu5.size)
  clear hb6 hB45
  have hs6 := hBu6.size
  go_wp2
  go_ret
  refine ⟨rfl, ?_⟩
  repeat (first | (with_reducible exact Below.refl _ _) | (with_reducible refine Below.drew ?_) | (refine Below.setCell ?_ (by first | exact Nat.le_refl _ | (simp; done) | (simp; omega) | omega) _) | (refine Below.alloc ?_ (by first | exact Nat.le_refl _ | (simp; done) | (simp; omega) | omega) _) | (refine Below.trans ?_ (Below.mono (by assumption) (by first | exact Nat.le_refl _ | (simp; done) | (simp; omega) | omega))))

end Go.Proofs.Ytgigapmoooaaoaa
