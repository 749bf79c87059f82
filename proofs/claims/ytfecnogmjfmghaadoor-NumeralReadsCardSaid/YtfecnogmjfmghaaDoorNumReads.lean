/- The walk of NumeralReads. -/
import Derived.Test.YtfecnogmjfmghaaDoorNumY
import Derived.Test.YtfecnogmjfmghaaDoorLin
import Derived.Test.YtfecnogmjfmghaaDoorDecR
namespace Go.Proofs.YtfecnogmjfmghaaDoor
set_option linter.unusedSimpArgs false
set_option linter.unusedVariables false
set_option linter.unnecessarySimpa false
open Go.RowKit

set_option maxRecDepth 100000 in
set_option maxHeartbeats 8000000 in
theorem reads_core {p : Option Addr} {c : Nat} {l : List UInt8} {w : World} (h : BS w (.slice p l.length c) l) (hl : l.length ≤ 200) (nz bl : Bool) (m N cc : Nat)
    (HC0 : Hid (∀ w, Calls Tryd.prog 9 #[] w fun e w' => e = .returned (.bool true) ∧ Below w.heap.size w w'))
    (HP : Hid (∀ W, Below w.heap.size w W → Calls Tryd.prog 10 #[.slice p l.length c] W fun e w' => e = .returned (.tuple #[MV nz m, .int .i64 (N : Int), errV cc]) ∧ Below W.heap.size W w'))
    (HQ : Hid (∀ W, Calls Tryd.prog 11 #[.string (S8 l)] W fun e w' => ∃ A c, e = .returned (.agg #[.bool nz, .slice A (dig m).length c, .int .i64 (N : Int), .int .i64 (cc : Int)]) ∧ Ints w' A c (dig m) ∧ Below W.heap.size W w'))
    (HK : Hid (∀ W, Below w.heap.size w W → Calls Tryd.prog 13 #[.slice p l.length c] W fun e w' => e = .returned (.bool bl) ∧ Below W.heap.size W w'))
    (HR : Hid (∀ W, Calls Tryd.prog 14 #[.string (S8 l)] W fun e w' => e = .returned (.bool bl) ∧ Below W.heap.size W w'))
    (HE : Hid (∀ W, Calls Tryd.prog 12 #[errV cc] W fun e w' => e = .returned (.int .i64 (cc : Int)) ∧ W = w'))
    (HG : Hid (∀ W, Calls Tryd.prog 15 #[MV nz m] W fun e w' => e = .returned (.bool true) ∧ Below W.heap.size W w'))
    (HO : Hid (∀ W, Calls Tryd.prog 17 #[MV nz m] W (RetNum nz m W)))
    (HS : Hid (∀ W A c A' c', Ints W A c (dig m) → Ints W A' c' (dig m) → Calls Tryd.prog 16 #[.agg #[.bool nz, .slice A (dig m).length c], .agg #[.bool nz, .slice A' (dig m).length c']] W fun e w' => e = .returned (.bool true) ∧ Below W.heap.size W w')) :
    Calls Tryd.prog 3 #[.slice p l.length c] w fun e w' => e = .returned (.bool true) ∧ Below w.heap.size w w' := by
  have H := Lib.hid h
  have KS : Hid (∀ W, Below w.heap.size w W → (convert 22 9 (.slice p l.length c)).run Tryd.prog W = .ok (.string (S8 l)) W) := fun W hW => run_str (H.out.on hW)
  have t0 : decide ((200 : Int) < (l.length : Int)) = false := decide_eq_false (by omega)
  have t1 : decide (200 < l.length) = false := decide_eq_false (by omega)
  clear h hl
  go_enter Tryd.func3, Tryd.ntmps3
  go_wp2_with fail
  refine (HC0.out _).mono ?_
  rintro e1 w1 ⟨rfl, hb1⟩
  have HB1 := Lib.hid hb1
  clear hb1
  go_wp2_with fail
  refine (HP.out _ HB1.out).mono ?_
  rintro e2 w2 ⟨rfl, hb2⟩
  have HB2 : Hid (Below w.heap.size w w2) := below_on HB1.out hb2
  clear hb2
  go_upto_region 6 with fail
  have rD : Row (w2.alloc (.cells #[.bool nz, .int .u64 (hiN m : Int), .int .u64 (loN m : Int)] 26)) w2.heap.size 26 #[.bool nz, .int .u64 (hiN m : Int), .int .u64 (loN m : Int)] := Row.new w2 _ _
  have HB3 : Hid (Below w.heap.size w (w2.alloc (.cells #[.bool nz, .int .u64 (hiN m : Int), .int .u64 (loN m : Int)] 26))) := HB2.out.alloc HB2.out.size _
  have HRD := Lib.hid rD
  clear rD
  have kcv := KS.out _ HB3.out
  generalize w2.alloc (.cells #[.bool nz, .int .u64 (hiN m : Int), .int .u64 (loN m : Int)] 26) = w3 at *
  obtain ⟨g, hg⟩ : ∃ g, g = w2.heap.size := ⟨_, rfl⟩
  rw [← hg]
  rw [← hg] at HRD
  clear hg
  go_wp2_with fail
  refine (HQ.out _).mono ?_
  rintro e4 w4 ⟨A1, c1, rfl, hI4, hb4⟩
  have HRD4 := HRD.out.on hb4
  have HB4 : Hid (Below w.heap.size w w4) := HB3.out.trans (hb4.mono HB3.out.size)
  clear hb4 kcv
  go_upto_region 7 with fail
  have rG : Row (w4.alloc (.cells #[.bool nz, .slice A1 (dig m).length c1, .int .i64 (N : Int), .int .i64 (cc : Int)] 35)) w4.heap.size 35 #[.bool nz, .slice A1 (dig m).length c1, .int .i64 (N : Int), .int .i64 (cc : Int)] := Row.new w4 _ _
  have HRD5 := Lib.hid (HRD4.alloc (.cells #[.bool nz, .slice A1 (dig m).length c1, .int .i64 (N : Int), .int .i64 (cc : Int)] 35))
  have HRG := Lib.hid rG
  have HI5 := Lib.hid (hI4.on ((Below.refl _ _).alloc (Nat.le_refl _) (.cells #[.bool nz, .slice A1 (dig m).length c1, .int .i64 (N : Int), .int .i64 (cc : Int)] 35)))
  have HB5 : Hid (Below w.heap.size w (w4.alloc (.cells #[.bool nz, .slice A1 (dig m).length c1, .int .i64 (N : Int), .int .i64 (cc : Int)] 35))) := HB4.out.alloc HB4.out.size _
  clear rG HRD4 hI4
  generalize w4.alloc (.cells #[.bool nz, .slice A1 (dig m).length c1, .int .i64 (N : Int), .int .i64 (cc : Int)] 35) = w5 at *
  obtain ⟨g', hg'⟩ : ∃ g', g' = w4.heap.size := ⟨_, rfl⟩
  rw [← hg']
  rw [← hg'] at HRG
  clear hg' HRD HB3 HB4
  have d0 := HRD5.out.cell 0
  have d1 := HRD5.out.cell 1
  have d2 := HRD5.out.cell 2
  have q0 := HRG.out.cell 0
  have q1 := HRG.out.cell 1
  have q2 := HRG.out.cell 2
  have q3 := HRG.out.cell 3
  simp only [List.getElem?_toArray, List.getElem?_cons_zero, List.getElem?_cons_succ] at d0 d1 d2 q0 q1 q2 q3
  have hgl : g < w5.heap.size := HRD5.out.lt
  have hgl' : g' < w5.heap.size := HRG.out.lt
  refine wp_region_keep (t := fun j => j) (al := fun _ => false) (loud := fun _ => false)
    (R := fun j v u w' => match j with
      | 0 => v = .int .i64 (N : Int)
      | 1 => v = .pointer (some ⟨g', 2, none⟩)
      | 2 => v = .int .i64 (N : Int)
      | 3 => v = .bool false
      | 4 => v = .bool false
      | 5 => v = errV cc
      | 6 => v = .int .i64 (cc : Int)
      | 7 => v = .pointer (some ⟨g', 3, none⟩)
      | 8 => v = .int .i64 (cc : Int)
      | 9 => v = .bool false
      | 10 => v = .bool false
      | 11 => v = .bool false
      | 12 => v = .slice p l.length c
      | 13 => v = .bool bl
      | 14 => v = .slice p l.length c
      | 15 => v = .string (S8 l)
      | 16 => v = .bool bl
      | 17 => v = .bool false
      | 18 => v = .bool false
      | _ => True) (by kernel_rfl) (by kernel_rfl) (by kernel_rfl) ?_ ?_ ?_ ?_
  · intro j v u w1_ w2_ h_ hF_ hB_
    (try dsimp only at h_ ⊢)
    split at h_ <;> first | exact h_ | exact NewR.on h_ hB_ | exact HasR.on h_ hB_ | exact IsNum.on h_ hB_ | exact HasNum.on h_ hB_ | exact RHeld.on h_ hB_ | trivial
  · intro j v u w1_ h1_ h_
    cases h1_
  · intro vs
    simp only [putAll, Act.put, List.setIfInBounds_toArray, List.set_cons_zero, List.set_cons_succ, Nat.zero_add, Nat.reduceAdd]
    refine ⟨?_, ?_, ?_, ?_, ?_, ?_, ?_, ?_, ?_, ?_, ?_, ?_, ?_, ?_, ?_, ?_, ?_, ?_, ?_, trivial⟩
    · intro w0_ hF_ hd_ Q_ K_ hK_
      have hc0_ := (bcell hF_).1
      have hf0_ := (bcell hF_).2
      have hz0_ := hF_.size; (try simp at hz0_)
      (try simp at hc0_ hf0_)
      have : g < w0_.heap.size := by omega
      have : g' < w0_.heap.size := by omega
      simp only [DepsR, Region.binds, Nat.zero_add, Nat.reduceAdd, true_implies, Bool.false_eq_true, false_implies, and_true, true_and, BEq.rfl, reduceCtorEq] at hd_
      go_simp
      exact hK_.out _ _ _ (by first | rfl | (simp only [Act.put, List.setIfInBounds_toArray, List.set_cons_zero, List.set_cons_succ, hd_]; done) | (simp only [Act.put, List.setIfInBounds_toArray, List.set_cons_zero, List.set_cons_succ, hd_]; rfl)) (Below.refl _ _) rfl (fun h => by cases h)
    · intro w0_ hF_ hd_ Q_ K_ hK_
      have hc0_ := (bcell hF_).1
      have hf0_ := (bcell hF_).2
      have hz0_ := hF_.size; (try simp at hz0_)
      (try simp at hc0_ hf0_)
      have : g < w0_.heap.size := by omega
      have : g' < w0_.heap.size := by omega
      simp only [DepsR, Region.binds, Nat.zero_add, Nat.reduceAdd, true_implies, Bool.false_eq_true, false_implies, and_true, true_and, BEq.rfl, reduceCtorEq] at hd_
      go_simp
      exact hK_.out _ _ _ (by first | rfl | (simp only [Act.put, List.setIfInBounds_toArray, List.set_cons_zero, List.set_cons_succ, hd_]; done) | (simp only [Act.put, List.setIfInBounds_toArray, List.set_cons_zero, List.set_cons_succ, hd_]; rfl)) (Below.refl _ _) rfl (fun h => by cases h)
    · intro w0_ hF_ hd_ Q_ K_ hK_
      have hc0_ := (bcell hF_).1
      have hf0_ := (bcell hF_).2
      have hz0_ := hF_.size; (try simp at hz0_)
      (try simp at hc0_ hf0_)
      have : g < w0_.heap.size := by omega
      have : g' < w0_.heap.size := by omega
      simp only [DepsR, Region.binds, Nat.zero_add, Nat.reduceAdd, true_implies, Bool.false_eq_true, false_implies, and_true, true_and, BEq.rfl, reduceCtorEq] at hd_
      go_simp
      exact hK_.out _ _ _ (by first | rfl | (simp only [Act.put, List.setIfInBounds_toArray, List.set_cons_zero, List.set_cons_succ, hd_]; done) | (simp only [Act.put, List.setIfInBounds_toArray, List.set_cons_zero, List.set_cons_succ, hd_]; rfl)) (Below.refl _ _) rfl (fun h => by cases h)
    · intro w0_ hF_ hd_ Q_ K_ hK_
      have hc0_ := (bcell hF_).1
      have hf0_ := (bcell hF_).2
      have hz0_ := hF_.size; (try simp at hz0_)
      (try simp at hc0_ hf0_)
      have : g < w0_.heap.size := by omega
      have : g' < w0_.heap.size := by omega
      simp only [DepsR, Region.binds, Nat.zero_add, Nat.reduceAdd, true_implies, Bool.false_eq_true, false_implies, and_true, true_and, BEq.rfl, reduceCtorEq] at hd_
      go_simp
      exact hK_.out _ _ _ (by first | rfl | (simp only [Act.put, List.setIfInBounds_toArray, List.set_cons_zero, List.set_cons_succ, hd_]; done) | (simp only [Act.put, List.setIfInBounds_toArray, List.set_cons_zero, List.set_cons_succ, hd_]; rfl)) (Below.refl _ _) rfl (fun h => by cases h)
    · intro w0_ hF_ hd_ Q_ K_ hK_
      have hc0_ := (bcell hF_).1
      have hf0_ := (bcell hF_).2
      have hz0_ := hF_.size; (try simp at hz0_)
      (try simp at hc0_ hf0_)
      have : g < w0_.heap.size := by omega
      have : g' < w0_.heap.size := by omega
      simp only [DepsR, Region.binds, Nat.zero_add, Nat.reduceAdd, true_implies, Bool.false_eq_true, false_implies, and_true, true_and, BEq.rfl, reduceCtorEq] at hd_
      go_simp
      exact hK_.out _ _ _ (by first | rfl | (simp only [Act.put, List.setIfInBounds_toArray, List.set_cons_zero, List.set_cons_succ, hd_]; done) | (simp only [Act.put, List.setIfInBounds_toArray, List.set_cons_zero, List.set_cons_succ, hd_]; rfl)) (Below.refl _ _) rfl (fun h => by cases h)
    · intro w0_ hF_ hd_ Q_ K_ hK_
      have hc0_ := (bcell hF_).1
      have hf0_ := (bcell hF_).2
      have hz0_ := hF_.size; (try simp at hz0_)
      (try simp at hc0_ hf0_)
      have : g < w0_.heap.size := by omega
      have : g' < w0_.heap.size := by omega
      simp only [DepsR, Region.binds, Nat.zero_add, Nat.reduceAdd, true_implies, Bool.false_eq_true, false_implies, and_true, true_and, BEq.rfl, reduceCtorEq] at hd_
      go_simp
      exact hK_.out _ _ _ (by first | rfl | (simp only [Act.put, List.setIfInBounds_toArray, List.set_cons_zero, List.set_cons_succ, hd_]; done) | (simp only [Act.put, List.setIfInBounds_toArray, List.set_cons_zero, List.set_cons_succ, hd_]; rfl)) (Below.refl _ _) rfl (fun h => by cases h)
    · intro w0_ hF_ hd_ Q_ K_ hK_
      have hc0_ := (bcell hF_).1
      have hf0_ := (bcell hF_).2
      have hz0_ := hF_.size; (try simp at hz0_)
      (try simp at hc0_ hf0_)
      have : g < w0_.heap.size := by omega
      have : g' < w0_.heap.size := by omega
      simp only [DepsR, Region.binds, Nat.zero_add, Nat.reduceAdd, true_implies, Bool.false_eq_true, false_implies, and_true, true_and, BEq.rfl, reduceCtorEq] at hd_
      go_simp
      refine (HE.out _).mono ?_
      rintro e_ w1_ ⟨rfl, rfl⟩
      exact hK_.out _ _ _ (by first | rfl | (simp only [Act.put, List.setIfInBounds_toArray, List.set_cons_zero, List.set_cons_succ, hd_]; done) | (simp only [Act.put, List.setIfInBounds_toArray, List.set_cons_zero, List.set_cons_succ, hd_]; rfl)) (Below.refl _ _) rfl (fun h => by cases h)
    · intro w0_ hF_ hd_ Q_ K_ hK_
      have hc0_ := (bcell hF_).1
      have hf0_ := (bcell hF_).2
      have hz0_ := hF_.size; (try simp at hz0_)
      (try simp at hc0_ hf0_)
      have : g < w0_.heap.size := by omega
      have : g' < w0_.heap.size := by omega
      simp only [DepsR, Region.binds, Nat.zero_add, Nat.reduceAdd, true_implies, Bool.false_eq_true, false_implies, and_true, true_and, BEq.rfl, reduceCtorEq] at hd_
      go_simp
      exact hK_.out _ _ _ (by first | rfl | (simp only [Act.put, List.setIfInBounds_toArray, List.set_cons_zero, List.set_cons_succ, hd_]; done) | (simp only [Act.put, List.setIfInBounds_toArray, List.set_cons_zero, List.set_cons_succ, hd_]; rfl)) (Below.refl _ _) rfl (fun h => by cases h)
    · intro w0_ hF_ hd_ Q_ K_ hK_
      have hc0_ := (bcell hF_).1
      have hf0_ := (bcell hF_).2
      have hz0_ := hF_.size; (try simp at hz0_)
      (try simp at hc0_ hf0_)
      have : g < w0_.heap.size := by omega
      have : g' < w0_.heap.size := by omega
      simp only [DepsR, Region.binds, Nat.zero_add, Nat.reduceAdd, true_implies, Bool.false_eq_true, false_implies, and_true, true_and, BEq.rfl, reduceCtorEq] at hd_
      go_simp
      exact hK_.out _ _ _ (by first | rfl | (simp only [Act.put, List.setIfInBounds_toArray, List.set_cons_zero, List.set_cons_succ, hd_]; done) | (simp only [Act.put, List.setIfInBounds_toArray, List.set_cons_zero, List.set_cons_succ, hd_]; rfl)) (Below.refl _ _) rfl (fun h => by cases h)
    · intro w0_ hF_ hd_ Q_ K_ hK_
      have hc0_ := (bcell hF_).1
      have hf0_ := (bcell hF_).2
      have hz0_ := hF_.size; (try simp at hz0_)
      (try simp at hc0_ hf0_)
      have : g < w0_.heap.size := by omega
      have : g' < w0_.heap.size := by omega
      simp only [DepsR, Region.binds, Nat.zero_add, Nat.reduceAdd, true_implies, Bool.false_eq_true, false_implies, and_true, true_and, BEq.rfl, reduceCtorEq] at hd_
      go_simp
      exact hK_.out _ _ _ (by first | rfl | (simp only [Act.put, List.setIfInBounds_toArray, List.set_cons_zero, List.set_cons_succ, hd_]; done) | (simp only [Act.put, List.setIfInBounds_toArray, List.set_cons_zero, List.set_cons_succ, hd_]; rfl)) (Below.refl _ _) rfl (fun h => by cases h)
    · intro w0_ hF_ hd_ Q_ K_ hK_
      have hc0_ := (bcell hF_).1
      have hf0_ := (bcell hF_).2
      have hz0_ := hF_.size; (try simp at hz0_)
      (try simp at hc0_ hf0_)
      have : g < w0_.heap.size := by omega
      have : g' < w0_.heap.size := by omega
      simp only [DepsR, Region.binds, Nat.zero_add, Nat.reduceAdd, true_implies, Bool.false_eq_true, false_implies, and_true, true_and, BEq.rfl, reduceCtorEq] at hd_
      go_simp
      exact hK_.out _ _ _ (by first | rfl | (simp only [Act.put, List.setIfInBounds_toArray, List.set_cons_zero, List.set_cons_succ, hd_]; done) | (simp only [Act.put, List.setIfInBounds_toArray, List.set_cons_zero, List.set_cons_succ, hd_]; rfl)) (Below.refl _ _) rfl (fun h => by cases h)
    · intro w0_ hF_ hd_ Q_ K_ hK_
      have hc0_ := (bcell hF_).1
      have hf0_ := (bcell hF_).2
      have hz0_ := hF_.size; (try simp at hz0_)
      (try simp at hc0_ hf0_)
      have : g < w0_.heap.size := by omega
      have : g' < w0_.heap.size := by omega
      simp only [DepsR, Region.binds, Nat.zero_add, Nat.reduceAdd, true_implies, Bool.false_eq_true, false_implies, and_true, true_and, BEq.rfl, reduceCtorEq] at hd_
      go_simp
      exact hK_.out _ _ _ (by first | rfl | (simp only [Act.put, List.setIfInBounds_toArray, List.set_cons_zero, List.set_cons_succ, hd_]; done) | (simp only [Act.put, List.setIfInBounds_toArray, List.set_cons_zero, List.set_cons_succ, hd_]; rfl)) (Below.refl _ _) rfl (fun h => by cases h)
    · intro w0_ hF_ hd_ Q_ K_ hK_
      have hc0_ := (bcell hF_).1
      have hf0_ := (bcell hF_).2
      have hz0_ := hF_.size; (try simp at hz0_)
      (try simp at hc0_ hf0_)
      have : g < w0_.heap.size := by omega
      have : g' < w0_.heap.size := by omega
      simp only [DepsR, Region.binds, Nat.zero_add, Nat.reduceAdd, true_implies, Bool.false_eq_true, false_implies, and_true, true_and, BEq.rfl, reduceCtorEq] at hd_
      go_simp
      exact hK_.out _ _ _ (by first | rfl | (simp only [Act.put, List.setIfInBounds_toArray, List.set_cons_zero, List.set_cons_succ, hd_]; done) | (simp only [Act.put, List.setIfInBounds_toArray, List.set_cons_zero, List.set_cons_succ, hd_]; rfl)) (Below.refl _ _) rfl (fun h => by cases h)
    · intro w0_ hF_ hd_ Q_ K_ hK_
      have hc0_ := (bcell hF_).1
      have hf0_ := (bcell hF_).2
      have hz0_ := hF_.size; (try simp at hz0_)
      (try simp at hc0_ hf0_)
      have : g < w0_.heap.size := by omega
      have : g' < w0_.heap.size := by omega
      simp only [DepsR, Region.binds, Nat.zero_add, Nat.reduceAdd, true_implies, Bool.false_eq_true, false_implies, and_true, true_and, BEq.rfl, reduceCtorEq] at hd_
      go_simp
      refine (HK.out _ (below_on HB5.out hF_)).mono ?_
      rintro e_ w1_ ⟨rfl, hb_⟩
      exact hK_.out _ _ _ (by first | rfl | (simp only [Act.put, List.setIfInBounds_toArray, List.set_cons_zero, List.set_cons_succ, hd_]; done) | (simp only [Act.put, List.setIfInBounds_toArray, List.set_cons_zero, List.set_cons_succ, hd_]; rfl)) hb_ rfl (fun h => by cases h)
    · intro w0_ hF_ hd_ Q_ K_ hK_
      have hc0_ := (bcell hF_).1
      have hf0_ := (bcell hF_).2
      have hz0_ := hF_.size; (try simp at hz0_)
      (try simp at hc0_ hf0_)
      have : g < w0_.heap.size := by omega
      have : g' < w0_.heap.size := by omega
      simp only [DepsR, Region.binds, Nat.zero_add, Nat.reduceAdd, true_implies, Bool.false_eq_true, false_implies, and_true, true_and, BEq.rfl, reduceCtorEq] at hd_
      go_simp
      exact hK_.out _ _ _ (by first | rfl | (simp only [Act.put, List.setIfInBounds_toArray, List.set_cons_zero, List.set_cons_succ, hd_]; done) | (simp only [Act.put, List.setIfInBounds_toArray, List.set_cons_zero, List.set_cons_succ, hd_]; rfl)) (Below.refl _ _) rfl (fun h => by cases h)
    · intro w0_ hF_ hd_ Q_ K_ hK_
      have hc0_ := (bcell hF_).1
      have hf0_ := (bcell hF_).2
      have hz0_ := hF_.size; (try simp at hz0_)
      (try simp at hc0_ hf0_)
      have : g < w0_.heap.size := by omega
      have : g' < w0_.heap.size := by omega
      simp only [DepsR, Region.binds, Nat.zero_add, Nat.reduceAdd, true_implies, Bool.false_eq_true, false_implies, and_true, true_and, BEq.rfl, reduceCtorEq] at hd_
      have kq_ := KS.out _ (below_on HB5.out hF_)
      go_simp
      exact hK_.out _ _ _ (by first | rfl | (simp only [Act.put, List.setIfInBounds_toArray, List.set_cons_zero, List.set_cons_succ, hd_]; done) | (simp only [Act.put, List.setIfInBounds_toArray, List.set_cons_zero, List.set_cons_succ, hd_]; rfl)) (Below.refl _ _) rfl (fun h => by cases h)
    · intro w0_ hF_ hd_ Q_ K_ hK_
      have hc0_ := (bcell hF_).1
      have hf0_ := (bcell hF_).2
      have hz0_ := hF_.size; (try simp at hz0_)
      (try simp at hc0_ hf0_)
      have : g < w0_.heap.size := by omega
      have : g' < w0_.heap.size := by omega
      simp only [DepsR, Region.binds, Nat.zero_add, Nat.reduceAdd, true_implies, Bool.false_eq_true, false_implies, and_true, true_and, BEq.rfl, reduceCtorEq] at hd_
      go_simp
      refine (HR.out _).mono ?_
      rintro e_ w1_ ⟨rfl, hb_⟩
      exact hK_.out _ _ _ (by first | rfl | (simp only [Act.put, List.setIfInBounds_toArray, List.set_cons_zero, List.set_cons_succ, hd_]; done) | (simp only [Act.put, List.setIfInBounds_toArray, List.set_cons_zero, List.set_cons_succ, hd_]; rfl)) hb_ rfl (fun h => by cases h)
    · intro w0_ hF_ hd_ Q_ K_ hK_
      have hc0_ := (bcell hF_).1
      have hf0_ := (bcell hF_).2
      have hz0_ := hF_.size; (try simp at hz0_)
      (try simp at hc0_ hf0_)
      have : g < w0_.heap.size := by omega
      have : g' < w0_.heap.size := by omega
      simp only [DepsR, Region.binds, Nat.zero_add, Nat.reduceAdd, true_implies, Bool.false_eq_true, false_implies, and_true, true_and, BEq.rfl, reduceCtorEq] at hd_
      go_simp
      exact hK_.out _ _ _ (by first | rfl | (simp only [Act.put, List.setIfInBounds_toArray, List.set_cons_zero, List.set_cons_succ, hd_]; done) | (simp only [Act.put, List.setIfInBounds_toArray, List.set_cons_zero, List.set_cons_succ, hd_]; rfl)) (Below.refl _ _) rfl (fun h => by cases h)
    · intro w0_ hF_ hd_ Q_ K_ hK_
      have hc0_ := (bcell hF_).1
      have hf0_ := (bcell hF_).2
      have hz0_ := hF_.size; (try simp at hz0_)
      (try simp at hc0_ hf0_)
      have : g < w0_.heap.size := by omega
      have : g' < w0_.heap.size := by omega
      simp only [DepsR, Region.binds, Nat.zero_add, Nat.reduceAdd, true_implies, Bool.false_eq_true, false_implies, and_true, true_and, BEq.rfl, reduceCtorEq] at hd_
      go_simp
      exact hK_.out _ _ _ (by first | rfl | (simp only [Act.put, List.setIfInBounds_toArray, List.set_cons_zero, List.set_cons_succ, hd_]; done) | (simp only [Act.put, List.setIfInBounds_toArray, List.set_cons_zero, List.set_cons_succ, hd_]; rfl)) (Below.refl _ _) rfl (fun h => by cases h)
  · intro vs w6 hBw6 hA_ hD_
    simp only [AllR, Nat.zero_add, Nat.reduceAdd, and_true] at hA_
    obtain ⟨r0_, r1_, r2_, r3_, r4_, r5_, r6_, r7_, r8_, r9_, r10_, r11_, r12_, r13_, r14_, r15_, r16_, r17_, r18_⟩ := hA_
    clear hD_
    simp only [putAll, Act.put, List.setIfInBounds_toArray, List.set_cons_zero, List.set_cons_succ, Nat.zero_add, Nat.reduceAdd, r0_, r1_, r2_, r3_, r4_, r5_, r6_, r7_, r8_, r9_, r10_, r11_, r12_, r13_, r14_, r15_, r16_, r17_, r18_]
    clear r0_ r1_ r2_ r3_ r4_ r5_ r6_ r7_ r8_ r9_ r10_ r11_ r12_ r13_ r14_ r15_ r16_ r17_ r18_
    obtain ⟨hcw6, hfw6⟩ := bcell hBw6; (try simp only [World.size_drew, World.cell?_drew, World.frozen?_drew] at hcw6 hfw6); have hzw6 := hBw6.size; (try simp at hzw6)
    have : g < w6.heap.size := by omega
    have : g' < w6.heap.size := by omega
    have hBq : Below w5.heap.size w5 w6 := hBw6
    have HRD6 := Lib.hid (HRD5.out.on hBq)
    have HRG6 := Lib.hid (HRG.out.on hBq)
    have HI6 := Lib.hid (HI5.out.on hBq)
    have HB6 : Hid (Below w.heap.size w w6) := HB5.out.trans (hBq.mono HB5.out.size)
    clear hBw6 hcw6 hfw6 hzw6 hBq d0 d1 d2 q0 q1 q2 q3 hgl hgl' HRD5 HRG HI5 HB5
    have d0 := HRD6.out.cell 0
    have d1 := HRD6.out.cell 1
    have d2 := HRD6.out.cell 2
    have q0 := HRG6.out.cell 0
    have q1 := HRG6.out.cell 1
    have q2 := HRG6.out.cell 2
    have q3 := HRG6.out.cell 3
    simp only [List.getElem?_toArray, List.getElem?_cons_zero, List.getElem?_cons_succ] at d0 d1 d2 q0 q1 q2 q3
    have hgl : g < w6.heap.size := HRD6.out.lt
    have hgl' : g' < w6.heap.size := HRG6.out.lt
    go_upto_region 9 with fail
    refine wp_region_keep (t := fun j => j) (al := fun _ => false) (loud := fun _ => false)
      (R := fun j v u w' => match j with
        | 0 => v = MV nz m
        | 1 => v = .bool true
        | 2 => v = .bool true
        | 3 => v = MV nz m
        | 4 => IsNum w' v nz m
        | 5 => v = .pointer (some ⟨g', 0, none⟩)
        | 6 => v = .agg #[.bool nz, .slice A1 (dig m).length c1]
        | 7 => v = .bool true
        | 8 => v = .bool true
        | 9 => v = .bool true
        | _ => True) (by kernel_rfl) (by kernel_rfl) (by kernel_rfl) ?_ ?_ ?_ ?_
    · intro j v u w1_ w2_ h_ hF_ hB_
      (try dsimp only at h_ ⊢)
      split at h_ <;> first | exact h_ | exact NewR.on h_ hB_ | exact HasR.on h_ hB_ | exact IsNum.on h_ hB_ | exact HasNum.on h_ hB_ | exact RHeld.on h_ hB_ | trivial
    · intro j v u w1_ h1_ h_
      cases h1_
    · intro vs
      simp only [putAll, Act.put, List.setIfInBounds_toArray, List.set_cons_zero, List.set_cons_succ, Nat.zero_add, Nat.reduceAdd]
      refine ⟨?_, ?_, ?_, ?_, ?_, ?_, ?_, ?_, ?_, ?_, trivial⟩
      · intro w0_ hF_ hd_ Q_ K_ hK_
        have hc0_ := (bcell hF_).1
        have hf0_ := (bcell hF_).2
        have hz0_ := hF_.size; (try simp at hz0_)
        (try simp at hc0_ hf0_)
        have : g < w0_.heap.size := by omega
        have : g' < w0_.heap.size := by omega
        simp only [DepsR, Region.binds, Nat.zero_add, Nat.reduceAdd, true_implies, Bool.false_eq_true, false_implies, and_true, true_and, BEq.rfl, reduceCtorEq] at hd_
        go_simp
        exact hK_.out _ _ _ (by first | rfl | (simp only [Act.put, List.setIfInBounds_toArray, List.set_cons_zero, List.set_cons_succ, hd_]; done) | (simp only [Act.put, List.setIfInBounds_toArray, List.set_cons_zero, List.set_cons_succ, hd_]; rfl)) (Below.refl _ _) rfl (fun h => by cases h)
      · intro w0_ hF_ hd_ Q_ K_ hK_
        have hc0_ := (bcell hF_).1
        have hf0_ := (bcell hF_).2
        have hz0_ := hF_.size; (try simp at hz0_)
        (try simp at hc0_ hf0_)
        have : g < w0_.heap.size := by omega
        have : g' < w0_.heap.size := by omega
        simp only [DepsR, Region.binds, Nat.zero_add, Nat.reduceAdd, true_implies, Bool.false_eq_true, false_implies, and_true, true_and, BEq.rfl, reduceCtorEq] at hd_
        go_simp
        refine (HG.out _).mono ?_
        rintro e_ w1_ ⟨rfl, hb_⟩
        exact hK_.out _ _ _ (by first | rfl | (simp only [Act.put, List.setIfInBounds_toArray, List.set_cons_zero, List.set_cons_succ, hd_]; done) | (simp only [Act.put, List.setIfInBounds_toArray, List.set_cons_zero, List.set_cons_succ, hd_]; rfl)) hb_ rfl (fun h => by cases h)
      · intro w0_ hF_ hd_ Q_ K_ hK_
        have hc0_ := (bcell hF_).1
        have hf0_ := (bcell hF_).2
        have hz0_ := hF_.size; (try simp at hz0_)
        (try simp at hc0_ hf0_)
        have : g < w0_.heap.size := by omega
        have : g' < w0_.heap.size := by omega
        simp only [DepsR, Region.binds, Nat.zero_add, Nat.reduceAdd, true_implies, Bool.false_eq_true, false_implies, and_true, true_and, BEq.rfl, reduceCtorEq] at hd_
        go_simp
        exact hK_.out _ _ _ (by first | rfl | (simp only [Act.put, List.setIfInBounds_toArray, List.set_cons_zero, List.set_cons_succ, hd_]; done) | (simp only [Act.put, List.setIfInBounds_toArray, List.set_cons_zero, List.set_cons_succ, hd_]; rfl)) (Below.refl _ _) rfl (fun h => by cases h)
      · intro w0_ hF_ hd_ Q_ K_ hK_
        have hc0_ := (bcell hF_).1
        have hf0_ := (bcell hF_).2
        have hz0_ := hF_.size; (try simp at hz0_)
        (try simp at hc0_ hf0_)
        have : g < w0_.heap.size := by omega
        have : g' < w0_.heap.size := by omega
        simp only [DepsR, Region.binds, Nat.zero_add, Nat.reduceAdd, true_implies, Bool.false_eq_true, false_implies, and_true, true_and, BEq.rfl, reduceCtorEq] at hd_
        go_simp
        exact hK_.out _ _ _ (by first | rfl | (simp only [Act.put, List.setIfInBounds_toArray, List.set_cons_zero, List.set_cons_succ, hd_]; done) | (simp only [Act.put, List.setIfInBounds_toArray, List.set_cons_zero, List.set_cons_succ, hd_]; rfl)) (Below.refl _ _) rfl (fun h => by cases h)
      · intro w0_ hF_ hd_ Q_ K_ hK_
        have hc0_ := (bcell hF_).1
        have hf0_ := (bcell hF_).2
        have hz0_ := hF_.size; (try simp at hz0_)
        (try simp at hc0_ hf0_)
        have : g < w0_.heap.size := by omega
        have : g' < w0_.heap.size := by omega
        simp only [DepsR, Region.binds, Nat.zero_add, Nat.reduceAdd, true_implies, Bool.false_eq_true, false_implies, and_true, true_and, BEq.rfl, reduceCtorEq] at hd_
        go_simp
        refine (HO.out _).mono ?_
        rintro e_ w1_ ⟨v_, rfl, hr_, hb_⟩
        exact hK_.out _ _ _ (by first | rfl | (simp only [Act.put, List.setIfInBounds_toArray, List.set_cons_zero, List.set_cons_succ, hd_]; done) | (simp only [Act.put, List.setIfInBounds_toArray, List.set_cons_zero, List.set_cons_succ, hd_]; rfl)) hb_ hr_ (fun h => by cases h)
      · intro w0_ hF_ hd_ Q_ K_ hK_
        have hc0_ := (bcell hF_).1
        have hf0_ := (bcell hF_).2
        have hz0_ := hF_.size; (try simp at hz0_)
        (try simp at hc0_ hf0_)
        have : g < w0_.heap.size := by omega
        have : g' < w0_.heap.size := by omega
        simp only [DepsR, Region.binds, Nat.zero_add, Nat.reduceAdd, true_implies, Bool.false_eq_true, false_implies, and_true, true_and, BEq.rfl, reduceCtorEq] at hd_
        go_simp
        exact hK_.out _ _ _ (by first | rfl | (simp only [Act.put, List.setIfInBounds_toArray, List.set_cons_zero, List.set_cons_succ, hd_]; done) | (simp only [Act.put, List.setIfInBounds_toArray, List.set_cons_zero, List.set_cons_succ, hd_]; rfl)) (Below.refl _ _) rfl (fun h => by cases h)
      · intro w0_ hF_ hd_ Q_ K_ hK_
        have hc0_ := (bcell hF_).1
        have hf0_ := (bcell hF_).2
        have hz0_ := hF_.size; (try simp at hz0_)
        (try simp at hc0_ hf0_)
        have : g < w0_.heap.size := by omega
        have : g' < w0_.heap.size := by omega
        simp only [DepsR, Region.binds, Nat.zero_add, Nat.reduceAdd, true_implies, Bool.false_eq_true, false_implies, and_true, true_and, BEq.rfl, reduceCtorEq] at hd_
        go_simp
        exact hK_.out _ _ _ (by first | rfl | (simp only [Act.put, List.setIfInBounds_toArray, List.set_cons_zero, List.set_cons_succ, hd_]; done) | (simp only [Act.put, List.setIfInBounds_toArray, List.set_cons_zero, List.set_cons_succ, hd_]; rfl)) (Below.refl _ _) rfl (fun h => by cases h)
      · intro w0_ hF_ hd_ Q_ K_ hK_
        have hc0_ := (bcell hF_).1
        have hf0_ := (bcell hF_).2
        have hz0_ := hF_.size; (try simp at hz0_)
        (try simp at hc0_ hf0_)
        have : g < w0_.heap.size := by omega
        have : g' < w0_.heap.size := by omega
        simp only [DepsR, Region.binds, Nat.zero_add, Nat.reduceAdd, true_implies, Bool.false_eq_true, false_implies, and_true, true_and, BEq.rfl, reduceCtorEq] at hd_
        obtain ⟨A_, c_, hv_, hI_⟩ : IsNum w0_ (vs 4) nz m := by simp only [hd_]
        go_simp
        refine (HS.out _ _ _ _ _ hI_ (HI6.out.on hF_)).mono ?_
        rintro e_ w1_ ⟨rfl, hb_⟩
        exact hK_.out _ _ _ (by first | rfl | (simp only [Act.put, List.setIfInBounds_toArray, List.set_cons_zero, List.set_cons_succ, hd_, hv_]; done) | (simp only [Act.put, List.setIfInBounds_toArray, List.set_cons_zero, List.set_cons_succ, hv_]; done) | (simp [Act.put, hv_]; done)) hb_ rfl (fun h => by cases h)
      · intro w0_ hF_ hd_ Q_ K_ hK_
        have hc0_ := (bcell hF_).1
        have hf0_ := (bcell hF_).2
        have hz0_ := hF_.size; (try simp at hz0_)
        (try simp at hc0_ hf0_)
        have : g < w0_.heap.size := by omega
        have : g' < w0_.heap.size := by omega
        simp only [DepsR, Region.binds, Nat.zero_add, Nat.reduceAdd, true_implies, Bool.false_eq_true, false_implies, and_true, true_and, BEq.rfl, reduceCtorEq] at hd_
        go_simp
        exact hK_.out _ _ _ (by first | rfl | (simp only [Act.put, List.setIfInBounds_toArray, List.set_cons_zero, List.set_cons_succ, hd_]; done) | (simp only [Act.put, List.setIfInBounds_toArray, List.set_cons_zero, List.set_cons_succ, hd_]; rfl)) (Below.refl _ _) rfl (fun h => by cases h)
      · intro w0_ hF_ hd_ Q_ K_ hK_
        have hc0_ := (bcell hF_).1
        have hf0_ := (bcell hF_).2
        have hz0_ := hF_.size; (try simp at hz0_)
        (try simp at hc0_ hf0_)
        have : g < w0_.heap.size := by omega
        have : g' < w0_.heap.size := by omega
        simp only [DepsR, Region.binds, Nat.zero_add, Nat.reduceAdd, true_implies, Bool.false_eq_true, false_implies, and_true, true_and, BEq.rfl, reduceCtorEq] at hd_
        go_simp
        exact hK_.out _ _ _ (by first | rfl | (simp only [Act.put, List.setIfInBounds_toArray, List.set_cons_zero, List.set_cons_succ, hd_]; done) | (simp only [Act.put, List.setIfInBounds_toArray, List.set_cons_zero, List.set_cons_succ, hd_]; rfl)) (Below.refl _ _) rfl (fun h => by cases h)
    · intro vs w7 hBw7 hA_ hD_
      simp only [AllR, Nat.zero_add, Nat.reduceAdd, and_true] at hA_
      obtain ⟨r0_, r1_, r2_, r3_, r4_, r5_, r6_, r7_, r8_, r9_⟩ := hA_
      clear hD_
      simp only [putAll, Act.put, List.setIfInBounds_toArray, List.set_cons_zero, List.set_cons_succ, Nat.zero_add, Nat.reduceAdd, r0_, r1_, r2_, r3_, r5_, r6_, r7_, r8_, r9_]
      clear r0_ r1_ r2_ r3_ r5_ r6_ r7_ r8_ r9_
      obtain ⟨hcw7, hfw7⟩ := bcell hBw7; (try simp only [World.size_drew, World.cell?_drew, World.frozen?_drew] at hcw7 hfw7); have hzw7 := hBw7.size; (try simp at hzw7)
      have : g < w7.heap.size := by omega
      have : g' < w7.heap.size := by omega
      have hB7 : Hid (Below w.heap.size w w7) := HB6.out.trans (hBw7.mono HB6.out.size)
      clear hBw7 hcw7 hfw7
      go_wp2
      go_ret
      exact ⟨rfl, hB7.out⟩

set_option maxRecDepth 100000 in
theorem reads_w {v : Value} {l : List UInt8} {w : World} (h : BS w v l) :
    Calls Tryd.prog 3 #[v] w fun e w' => e = .returned (.bool true) ∧ Below w.heap.size w w' := by
  have H := Lib.hid h
  obtain ⟨p, c, rfl, hlc, hcm, hU⟩ := h
  by_cases hl : l.length ≤ 200
  · have hlt := fitZ_lt (numZ l)
    have hm : (fitZ (numZ l)).natAbs < 340282366920938463463374607431768211456 := by rw [topN_eq] at hlt; omega
    have hd : (dig (fitZ (numZ l)).natAbs).length ≤ 1000 := Nat.le_trans (dig_len_le (k := 36) (by rw [topN_eq] at hlt; omega)) (by omega)
    have hcc : fitC (numZ l).natAbs ≤ 25 := by unfold fitC; split <;> omega
    refine reads_core H.out hl (negZ (fitZ (numZ l))) (looksB l) (fitZ (numZ l)).natAbs (numN l) (fitC (numZ l).natAbs) (Lib.hid awake2) ?_ ?_ ?_ ?_ ?_ ?_ ?_ ?_
    · exact fun W hW => prefix_u (H.out.on hW) (by omega)
    · exact fun W => rpre_u l (by omega) W
    · exact fun W hW => looks_u (H.out.on hW) (by omega)
    · exact fun W => rlooks_u l (by omega) W
    · exact fun W => code_v _ hcc W
    · intro W
      have := good_m (negZ (fitZ (numZ l))) (fitZ (numZ l)).natAbs W
      rwa [goodB_z, decide_eq_true hlt] at this
    · exact fun W => of_any _ _ hm W
    · intro W A c A' c' hI hI'
      have := same_any (n := negZ (fitZ (numZ l))) (m := (fitZ (numZ l)).natAbs) (n' := negZ (fitZ (numZ l))) (m' := (fitZ (numZ l)).natAbs) ⟨A, c, rfl, hI⟩ ⟨A', c', rfl, hI'⟩ hd hd
      rwa [show ∀ n m, eqM n m n m = true by intro n m; unfold eqM; simp] at this
  · have t0 : decide ((200 : Int) < (l.length : Int)) = true := decide_eq_true (by omega)
    have t1 : decide (200 < l.length) = true := decide_eq_true (by omega)
    have HC0 := Lib.hid awake2
    clear hU
    go_enter Tryd.func3, Tryd.ntmps3
    go_wp2_with fail
    refine (HC0.out _).mono ?_
    rintro e1 w1 ⟨rfl, hb1⟩
    have HB1 := Lib.hid hb1
    clear hb1
    go_wp2
    go_ret
    exact ⟨rfl, HB1.out⟩
end Go.Proofs.YtfecnogmjfmghaaDoor
