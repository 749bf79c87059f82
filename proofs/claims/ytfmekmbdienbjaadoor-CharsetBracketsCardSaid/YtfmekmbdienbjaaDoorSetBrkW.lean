/- The walk of CharsetBrackets over opaque answers. -/
import Derived.Test.YtfmekmbdienbjaaDoorSetRB
import Derived.Test.YtfmekmbdienbjaaDoorSetSame
import Derived.Test.YtfmekmbdienbjaaDoorSetP
import Derived.Deep.MidRow
namespace Go.Proofs.YtfmekmbdienbjaaDoor
set_option linter.unusedSimpArgs false
set_option linter.unusedVariables false
set_option linter.unnecessarySimpa false
open Go.RowKit

theorem got_cells {GA : Array Value} (hs : GA.size = 259) (P : Nat → Bool) (hG : ∀ k, k < 256 → GA[k]? = some (.bool (P k))) :
    (GA.toList.take 256).length = 256 ∧ ∀ k, k < 256 → (GA.toList.take 256).toArray[k]? = some (.bool (P k)) := by
  refine ⟨by rw [List.length_take, Array.length_toList, hs]; rfl, fun k hk => ?_⟩
  rw [List.getElem?_toArray, List.getElem?_take_of_lt hk, Array.getElem?_toList]
  exact hG k hk
theorem got_range {GA : Array Value} {w : World} {b : Nat} (h : Row w b 34 GA) : w.rangeAt b 0 (GA.toList.take 256) := by
  intro j v hv
  rw [Nat.zero_add, h.cell]
  have hj : j < 256 := by
    rcases Nat.lt_or_ge j 256 with h1 | h1
    · exact h1
    · rw [List.getElem?_eq_none (by rw [List.length_take]; omega)] at hv; cases hv
  rw [List.getElem?_take_of_lt hj, Array.getElem?_toList] at hv
  exact hv
theorem set3_info : (Tryd.prog.info? 32).map (·.size) = some 256 := by kernel_rfl

set_option maxRecDepth 100000 in
set_option maxHeartbeats 16000000 in
theorem brackets_core {p : Option Addr} {c : Nat} {l : List UInt8} {w : World} (h : BS w (.slice p l.length c) l) (hl : l.length ≤ 200) (at_ : Int) (P : Nat → Bool) (n cc a : Int)
    (EV : World → Value → Prop) (hEV : Hid (∀ W W' ev, EV W ev → Below W.heap.size W W' → EV W' ev))
    (GA : Array Value) (hGs : GA.size = 259) (hGo : ∀ v ∈ GA.toList, v.oneCell' = true) (hG : ∀ k, k < 256 → GA[k]? = some (.bool (P k)))
    (g1 : GA[256]? = some (.int .i64 n)) (g2 : GA[257]? = some (.int .i64 cc)) (g3 : GA[258]? = some (.int .i64 a))
    (HC0 : Hid (Calls Tryd.prog 6 #[] w fun e w' => e = .returned (.bool true) ∧ Below w.heap.size w w'))
    (HP : Hid (∀ W, Below w.heap.size w W → Calls Tryd.prog 7 #[.slice p l.length c, .int .i64 at_] W fun e w' => ∃ ev, e = .returned (.tuple #[setV P, .int .i64 n, ev]) ∧ EV w' ev ∧ Below W.heap.size W w'))
    (HQ : Hid (∀ W, Calls Tryd.prog 8 #[.string (S8 l), .int .i64 at_] W fun e w' => e = .returned (.agg GA) ∧ Below W.heap.size W w'))
    (HE : Hid (∀ W ev, EV W ev → Calls Tryd.prog 9 #[ev] W fun e w' => e = .returned (.int .i64 cc) ∧ W = w'))
    (HL : Hid (cc ≠ 0 → ∀ W ev, Below w.heap.size w W → EV W ev → Calls Tryd.prog 11 #[ev] W fun e w' => e = .returned (.int .i64 a) ∧ Below W.heap.size W w')) :
    Calls Tryd.prog 3 #[.slice p l.length c, .int .i64 at_] w fun e w' => e = .returned (.bool true) ∧ Below w.heap.size w w' := by
  have H := Lib.hid h
  have KS : Hid (∀ W, Below w.heap.size w W → (convert 22 9 (.slice p l.length c)).run Tryd.prog W = .ok (.string (S8 l)) W) := fun W hW => run_str (H.out.on hW)
  have t0 : decide ((200 : Int) < (l.length : Int)) = false := decide_eq_false (by omega)
  have t1 : decide (200 < l.length) = false := decide_eq_false (by omega)
  have HGo := Lib.hid hGo
  have HG := Lib.hid hG
  have G1 := Lib.hid g1
  have G2 := Lib.hid g2
  have G3 := Lib.hid g3
  clear h hl hGo hG g1 g2 g3
  go_enter Tryd.func3, Tryd.ntmps3
  go_wp2_with fail
  refine (HC0.out).mono ?_
  rintro e1 w1 ⟨rfl, hb1⟩
  have HB1 := Lib.hid hb1
  clear hb1
  go_wp2_with fail
  refine (HP.out _ HB1.out).mono ?_
  rintro e2 w2 ⟨ev, rfl, hev, hb2⟩
  have HB2 : Hid (Below w.heap.size w w2) := below_on HB1.out hb2
  have HV2 := Lib.hid hev
  clear hb2 hev
  go_upto_region 6 with fail
  have rS : Hid (Row (w2.alloc (.cells (setA P) 26)) w2.heap.size 26 (setA P)) := Row.new w2 _ _
  have HB3 : Hid (Below w.heap.size w (w2.alloc (.cells (setA P) 26))) := HB2.out.alloc HB2.out.size _
  have HV3 : Hid (EV (w2.alloc (.cells (setA P) 26)) ev) := hEV.out _ _ _ HV2.out ((Below.refl _ _).alloc (Nat.le_refl _) _)
  have kcv := KS.out _ HB3.out
  generalize w2.alloc (.cells (setA P) 26) = w3 at *
  obtain ⟨g, hg⟩ : ∃ g, g = w2.heap.size := ⟨_, rfl⟩
  rw [← hg]
  rw [← hg] at rS
  clear hg HB1 HB2 HV2
  go_wp2_with fail
  refine (HQ.out _).mono ?_
  rintro e4 w4 ⟨rfl, hb4⟩
  have rS4 := Lib.hid (rS.out.on hb4)
  have HB4 : Hid (Below w.heap.size w w4) := HB3.out.trans (hb4.mono HB3.out.size)
  have HV4 : Hid (EV w4 ev) := hEV.out _ _ _ HV3.out hb4
  clear hb4 kcv rS HB3 HV3
  have hr : Row (w4.alloc (.cells gZ 34)) w4.heap.size 34 gZ := Row.new w4 _ _
  have hst := got_store hr gZ_size GA.toList (by rw [Array.length_toList]; exact hGs) HGo.out
  have hrow := got_row hr GA.toList
  rw [Array.toArray_toList] at hst hrow
  have HR5 := Lib.hid hrow
  have bel : Below w4.heap.size w4 ((w4.alloc (.cells gZ 34)).setRow w4.heap.size GA) := below_setRow ((Below.refl _ _).alloc (Nat.le_refl _) _) (Nat.le_refl _) _
  have rS5 := Lib.hid (rS4.out.on bel)
  have HB5 : Hid (Below w.heap.size w ((w4.alloc (.cells gZ 34)).setRow w4.heap.size GA)) := below_on HB4.out bel
  have HV5 : Hid (EV ((w4.alloc (.cells gZ 34)).setRow w4.heap.size GA) ev) := hEV.out _ _ _ HV4.out bel
  clear hrow hr bel HB4 HV4 rS4
  go_upto_region 7 with fail
  generalize ((w4.alloc (.cells gZ 34)).setRow w4.heap.size GA) = w5 at *
  obtain ⟨g', hg'⟩ : ∃ g', g' = w4.heap.size := ⟨_, rfl⟩
  rw [← hg']
  rw [← hg'] at HR5
  clear hg' hst
  obtain ⟨AL, hAA⟩ : ∃ AL, AL = GA.toList.take 256 := ⟨_, rfl⟩
  have hlen := got_cells hGs P HG.out
  have HS : Hid (∀ W, Calls Tryd.prog 10 #[setV P, .agg AL.toArray] W fun e w' => e = .returned (.bool true) ∧ Below W.heap.size W w') := fun W => same_u P AL.toArray (by rw [hAA]; exact hlen.2) W
  have HD : Hid (∀ W, Below w5.heap.size w5 W → W.rangeAt g' 0 AL) := fun W hW => by rw [hAA]; exact got_range (HR5.out.on hW)
  have HN : Hid (AL.length = 256) := by rw [hAA]; exact hlen.1
  have q1 := (HR5.out.cell 256).trans G1.out
  have q2 := (HR5.out.cell 257).trans G2.out
  have q3 := (HR5.out.cell 258).trans G3.out
  have hgl : g < w5.heap.size := rS5.out.lt
  have hgl' : g' < w5.heap.size := HR5.out.lt
  obtain ⟨j0, j1, j2, j3, f0, f1, f2, f3, zr⟩ := rS5.out.four
  clear f0 f1 f2 f3 hAA hlen
  refine wp_region_keep (t := fun j => j) (al := fun _ => false) (loud := fun _ => false)
    (R := fun j v u w' => match j with
      | 0 => v = .int .i64 n
      | 1 => v = .pointer (some ⟨g', 256, none⟩)
      | 2 => v = .int .i64 n
      | 3 => v = .bool false
      | 4 => v = .bool false
      | 5 => v = ev
      | 6 => v = .int .i64 cc
      | 7 => v = .pointer (some ⟨g', 257, none⟩)
      | 8 => v = .int .i64 cc
      | 9 => v = .bool false
      | 10 => v = .bool false
      | 11 => v = .bool false
      | 12 => v = setV P
      | 13 => v = .pointer (some ⟨g', 0, none⟩)
      | 14 => v = .agg AL.toArray
      | 15 => v = .bool true
      | 16 => v = .bool false
      | 17 => v = .bool false
      | _ => True) (by kernel_rfl) (by kernel_rfl) (by kernel_rfl) ?_ ?_ ?_ ?_
  · intro j v u w1_ w2_ h_ hF_ hB_
    (try dsimp only at h_ ⊢)
    split at h_ <;> first | (with_reducible exact h_) | (with_reducible exact NewR.on h_ hB_) | (with_reducible exact HasR.on h_ hB_) | exact IsNum.on h_ hB_ | exact HasNum.on h_ hB_ | exact RHeld.on h_ hB_ | trivial | exact h_
  · intro j v u w1_ h1_ h_
    cases h1_
  · intro vs
    simp only [putAll, Act.put, List.setIfInBounds_toArray, List.set_cons_zero, List.set_cons_succ, Nat.zero_add, Nat.reduceAdd]
    refine ⟨?_, ?_, ?_, ?_, ?_, ?_, ?_, ?_, ?_, ?_, ?_, ?_, ?_, ?_, ?_, ?_, ?_, ?_, trivial⟩
    · intro w0_ hF_ hd_ Q_ K_ hK_
      have hc0_ := (bcell hF_).1
      have hf0_ := (bcell hF_).2
      have hz0_ := hF_.size; (try simp at hz0_)
      (try simp at hc0_ hf0_)
      have : g < w0_.heap.size := by omega
      have : g' < w0_.heap.size := by omega
      simp only [DepsR, Region.binds, Nat.zero_add, Nat.reduceAdd, true_implies, Bool.false_eq_true, false_implies, and_true, true_and, BEq.rfl, reduceCtorEq] at hd_
      go_simp
      exact hK_.out _ _ _ (by first | rfl | (simp only [Act.put, List.setIfInBounds_toArray, List.set_cons_zero, List.set_cons_succ, hd_]; done) | (simp only [Act.put, List.setIfInBounds_toArray, List.set_cons_zero, List.set_cons_succ, hd_]; rfl)) (Below.refl _ _) rfl (fun h => by cases h)
    · intro w0_ hF_ hd_ Q_ K_ hK_
      have hc0_ := (bcell hF_).1
      have hf0_ := (bcell hF_).2
      have hz0_ := hF_.size; (try simp at hz0_)
      (try simp at hc0_ hf0_)
      have : g < w0_.heap.size := by omega
      have : g' < w0_.heap.size := by omega
      simp only [DepsR, Region.binds, Nat.zero_add, Nat.reduceAdd, true_implies, Bool.false_eq_true, false_implies, and_true, true_and, BEq.rfl, reduceCtorEq] at hd_
      go_simp
      exact hK_.out _ _ _ (by first | rfl | (simp only [Act.put, List.setIfInBounds_toArray, List.set_cons_zero, List.set_cons_succ, hd_]; done) | (simp only [Act.put, List.setIfInBounds_toArray, List.set_cons_zero, List.set_cons_succ, hd_]; rfl)) (Below.refl _ _) rfl (fun h => by cases h)
    · intro w0_ hF_ hd_ Q_ K_ hK_
      have hc0_ := (bcell hF_).1
      have hf0_ := (bcell hF_).2
      have hz0_ := hF_.size; (try simp at hz0_)
      (try simp at hc0_ hf0_)
      have : g < w0_.heap.size := by omega
      have : g' < w0_.heap.size := by omega
      simp only [DepsR, Region.binds, Nat.zero_add, Nat.reduceAdd, true_implies, Bool.false_eq_true, false_implies, and_true, true_and, BEq.rfl, reduceCtorEq] at hd_
      go_simp
      exact hK_.out _ _ _ (by first | rfl | (simp only [Act.put, List.setIfInBounds_toArray, List.set_cons_zero, List.set_cons_succ, hd_]; done) | (simp only [Act.put, List.setIfInBounds_toArray, List.set_cons_zero, List.set_cons_succ, hd_]; rfl)) (Below.refl _ _) rfl (fun h => by cases h)
    · intro w0_ hF_ hd_ Q_ K_ hK_
      have hc0_ := (bcell hF_).1
      have hf0_ := (bcell hF_).2
      have hz0_ := hF_.size; (try simp at hz0_)
      (try simp at hc0_ hf0_)
      have : g < w0_.heap.size := by omega
      have : g' < w0_.heap.size := by omega
      simp only [DepsR, Region.binds, Nat.zero_add, Nat.reduceAdd, true_implies, Bool.false_eq_true, false_implies, and_true, true_and, BEq.rfl, reduceCtorEq] at hd_
      go_simp
      exact hK_.out _ _ _ (by first | rfl | (simp only [Act.put, List.setIfInBounds_toArray, List.set_cons_zero, List.set_cons_succ, hd_]; done) | (simp only [Act.put, List.setIfInBounds_toArray, List.set_cons_zero, List.set_cons_succ, hd_]; rfl)) (Below.refl _ _) rfl (fun h => by cases h)
    · intro w0_ hF_ hd_ Q_ K_ hK_
      have hc0_ := (bcell hF_).1
      have hf0_ := (bcell hF_).2
      have hz0_ := hF_.size; (try simp at hz0_)
      (try simp at hc0_ hf0_)
      have : g < w0_.heap.size := by omega
      have : g' < w0_.heap.size := by omega
      simp only [DepsR, Region.binds, Nat.zero_add, Nat.reduceAdd, true_implies, Bool.false_eq_true, false_implies, and_true, true_and, BEq.rfl, reduceCtorEq] at hd_
      go_simp
      exact hK_.out _ _ _ (by first | rfl | (simp only [Act.put, List.setIfInBounds_toArray, List.set_cons_zero, List.set_cons_succ, hd_]; done) | (simp only [Act.put, List.setIfInBounds_toArray, List.set_cons_zero, List.set_cons_succ, hd_]; rfl)) (Below.refl _ _) rfl (fun h => by cases h)
    · intro w0_ hF_ hd_ Q_ K_ hK_
      have hc0_ := (bcell hF_).1
      have hf0_ := (bcell hF_).2
      have hz0_ := hF_.size; (try simp at hz0_)
      (try simp at hc0_ hf0_)
      have : g < w0_.heap.size := by omega
      have : g' < w0_.heap.size := by omega
      simp only [DepsR, Region.binds, Nat.zero_add, Nat.reduceAdd, true_implies, Bool.false_eq_true, false_implies, and_true, true_and, BEq.rfl, reduceCtorEq] at hd_
      go_simp
      exact hK_.out _ _ _ (by first | rfl | (simp only [Act.put, List.setIfInBounds_toArray, List.set_cons_zero, List.set_cons_succ, hd_]; done) | (simp only [Act.put, List.setIfInBounds_toArray, List.set_cons_zero, List.set_cons_succ, hd_]; rfl)) (Below.refl _ _) rfl (fun h => by cases h)
    · intro w0_ hF_ hd_ Q_ K_ hK_
      have hc0_ := (bcell hF_).1
      have hf0_ := (bcell hF_).2
      have hz0_ := hF_.size; (try simp at hz0_)
      (try simp at hc0_ hf0_)
      have : g < w0_.heap.size := by omega
      have : g' < w0_.heap.size := by omega
      simp only [DepsR, Region.binds, Nat.zero_add, Nat.reduceAdd, true_implies, Bool.false_eq_true, false_implies, and_true, true_and, BEq.rfl, reduceCtorEq] at hd_
      go_simp
      refine (HE.out _ _ (hEV.out _ _ _ HV5.out hF_)).mono ?_
      rintro e_ w1_ ⟨rfl, rfl⟩
      exact hK_.out _ _ _ (by first | rfl | (simp only [Act.put, List.setIfInBounds_toArray, List.set_cons_zero, List.set_cons_succ, hd_]; done) | (simp only [Act.put, List.setIfInBounds_toArray, List.set_cons_zero, List.set_cons_succ, hd_]; rfl)) (Below.refl _ _) rfl (fun h => by cases h)
    · intro w0_ hF_ hd_ Q_ K_ hK_
      have hc0_ := (bcell hF_).1
      have hf0_ := (bcell hF_).2
      have hz0_ := hF_.size; (try simp at hz0_)
      (try simp at hc0_ hf0_)
      have : g < w0_.heap.size := by omega
      have : g' < w0_.heap.size := by omega
      simp only [DepsR, Region.binds, Nat.zero_add, Nat.reduceAdd, true_implies, Bool.false_eq_true, false_implies, and_true, true_and, BEq.rfl, reduceCtorEq] at hd_
      go_simp
      exact hK_.out _ _ _ (by first | rfl | (simp only [Act.put, List.setIfInBounds_toArray, List.set_cons_zero, List.set_cons_succ, hd_]; done) | (simp only [Act.put, List.setIfInBounds_toArray, List.set_cons_zero, List.set_cons_succ, hd_]; rfl)) (Below.refl _ _) rfl (fun h => by cases h)
    · intro w0_ hF_ hd_ Q_ K_ hK_
      have hc0_ := (bcell hF_).1
      have hf0_ := (bcell hF_).2
      have hz0_ := hF_.size; (try simp at hz0_)
      (try simp at hc0_ hf0_)
      have : g < w0_.heap.size := by omega
      have : g' < w0_.heap.size := by omega
      simp only [DepsR, Region.binds, Nat.zero_add, Nat.reduceAdd, true_implies, Bool.false_eq_true, false_implies, and_true, true_and, BEq.rfl, reduceCtorEq] at hd_
      go_simp
      exact hK_.out _ _ _ (by first | rfl | (simp only [Act.put, List.setIfInBounds_toArray, List.set_cons_zero, List.set_cons_succ, hd_]; done) | (simp only [Act.put, List.setIfInBounds_toArray, List.set_cons_zero, List.set_cons_succ, hd_]; rfl)) (Below.refl _ _) rfl (fun h => by cases h)
    · intro w0_ hF_ hd_ Q_ K_ hK_
      have hc0_ := (bcell hF_).1
      have hf0_ := (bcell hF_).2
      have hz0_ := hF_.size; (try simp at hz0_)
      (try simp at hc0_ hf0_)
      have : g < w0_.heap.size := by omega
      have : g' < w0_.heap.size := by omega
      simp only [DepsR, Region.binds, Nat.zero_add, Nat.reduceAdd, true_implies, Bool.false_eq_true, false_implies, and_true, true_and, BEq.rfl, reduceCtorEq] at hd_
      go_simp
      exact hK_.out _ _ _ (by first | rfl | (simp only [Act.put, List.setIfInBounds_toArray, List.set_cons_zero, List.set_cons_succ, hd_]; done) | (simp only [Act.put, List.setIfInBounds_toArray, List.set_cons_zero, List.set_cons_succ, hd_]; rfl)) (Below.refl _ _) rfl (fun h => by cases h)
    · intro w0_ hF_ hd_ Q_ K_ hK_
      have hc0_ := (bcell hF_).1
      have hf0_ := (bcell hF_).2
      have hz0_ := hF_.size; (try simp at hz0_)
      (try simp at hc0_ hf0_)
      have : g < w0_.heap.size := by omega
      have : g' < w0_.heap.size := by omega
      simp only [DepsR, Region.binds, Nat.zero_add, Nat.reduceAdd, true_implies, Bool.false_eq_true, false_implies, and_true, true_and, BEq.rfl, reduceCtorEq] at hd_
      go_simp
      exact hK_.out _ _ _ (by first | rfl | (simp only [Act.put, List.setIfInBounds_toArray, List.set_cons_zero, List.set_cons_succ, hd_]; done) | (simp only [Act.put, List.setIfInBounds_toArray, List.set_cons_zero, List.set_cons_succ, hd_]; rfl)) (Below.refl _ _) rfl (fun h => by cases h)
    · intro w0_ hF_ hd_ Q_ K_ hK_
      have hc0_ := (bcell hF_).1
      have hf0_ := (bcell hF_).2
      have hz0_ := hF_.size; (try simp at hz0_)
      (try simp at hc0_ hf0_)
      have : g < w0_.heap.size := by omega
      have : g' < w0_.heap.size := by omega
      simp only [DepsR, Region.binds, Nat.zero_add, Nat.reduceAdd, true_implies, Bool.false_eq_true, false_implies, and_true, true_and, BEq.rfl, reduceCtorEq] at hd_
      go_simp
      exact hK_.out _ _ _ (by first | rfl | (simp only [Act.put, List.setIfInBounds_toArray, List.set_cons_zero, List.set_cons_succ, hd_]; done) | (simp only [Act.put, List.setIfInBounds_toArray, List.set_cons_zero, List.set_cons_succ, hd_]; rfl)) (Below.refl _ _) rfl (fun h => by cases h)
    · intro w0_ hF_ hd_ Q_ K_ hK_
      have hc0_ := (bcell hF_).1
      have hf0_ := (bcell hF_).2
      have hz0_ := hF_.size; (try simp at hz0_)
      (try simp at hc0_ hf0_)
      have : g < w0_.heap.size := by omega
      have : g' < w0_.heap.size := by omega
      simp only [DepsR, Region.binds, Nat.zero_add, Nat.reduceAdd, true_implies, Bool.false_eq_true, false_implies, and_true, true_and, BEq.rfl, reduceCtorEq] at hd_
      go_simp
      exact hK_.out _ _ _ (by first | rfl | (simp only [Act.put, List.setIfInBounds_toArray, List.set_cons_zero, List.set_cons_succ, hd_]; done) | (simp only [Act.put, List.setIfInBounds_toArray, List.set_cons_zero, List.set_cons_succ, hd_]; rfl)) (Below.refl _ _) rfl (fun h => by cases h)
    · intro w0_ hF_ hd_ Q_ K_ hK_
      have hc0_ := (bcell hF_).1
      have hf0_ := (bcell hF_).2
      have hz0_ := hF_.size; (try simp at hz0_)
      (try simp at hc0_ hf0_)
      have : g < w0_.heap.size := by omega
      have : g' < w0_.heap.size := by omega
      simp only [DepsR, Region.binds, Nat.zero_add, Nat.reduceAdd, true_implies, Bool.false_eq_true, false_implies, and_true, true_and, BEq.rfl, reduceCtorEq] at hd_
      go_simp
      exact hK_.out _ _ _ (by first | rfl | (simp only [Act.put, List.setIfInBounds_toArray, List.set_cons_zero, List.set_cons_succ, hd_]; done) | (simp only [Act.put, List.setIfInBounds_toArray, List.set_cons_zero, List.set_cons_succ, hd_]; rfl)) (Below.refl _ _) rfl (fun h => by cases h)
    · intro w0_ hF_ hd_ Q_ K_ hK_
      have hc0_ := (bcell hF_).1
      have hf0_ := (bcell hF_).2
      have hz0_ := hF_.size; (try simp at hz0_)
      (try simp at hc0_ hf0_)
      have : g < w0_.heap.size := by omega
      have : g' < w0_.heap.size := by omega
      simp only [DepsR, Region.binds, Nat.zero_add, Nat.reduceAdd, true_implies, Bool.false_eq_true, false_implies, and_true, true_and, BEq.rfl, reduceCtorEq] at hd_
      rw [if_pos (by go_simp)]
      refine wp_load_mid _ (.tmp 38) rfl g' 0 (by simp [Act.eval, Act.put, hd_]) AL _ (HD.out _ hF_) Tryd.underlying32 rfl (by rw [set3_info, HN.out]) ?_
      exact hK_.out _ _ _ (by first | rfl | (simp only [Act.put, List.setIfInBounds_toArray, List.set_cons_zero, List.set_cons_succ, hd_]; done) | (simp only [Act.put, List.setIfInBounds_toArray, List.set_cons_zero, List.set_cons_succ, hd_]; rfl)) (Below.refl _ _) rfl (fun h => by cases h)
    · intro w0_ hF_ hd_ Q_ K_ hK_
      have hc0_ := (bcell hF_).1
      have hf0_ := (bcell hF_).2
      have hz0_ := hF_.size; (try simp at hz0_)
      (try simp at hc0_ hf0_)
      have : g < w0_.heap.size := by omega
      have : g' < w0_.heap.size := by omega
      simp only [DepsR, Region.binds, Nat.zero_add, Nat.reduceAdd, true_implies, Bool.false_eq_true, false_implies, and_true, true_and, BEq.rfl, reduceCtorEq] at hd_
      go_simp
      refine (HS.out _).mono ?_
      rintro e_ w1_ ⟨rfl, hb_⟩
      exact hK_.out _ _ _ (by first | rfl | (simp only [Act.put, List.setIfInBounds_toArray, List.set_cons_zero, List.set_cons_succ, hd_]; done) | (simp only [Act.put, List.setIfInBounds_toArray, List.set_cons_zero, List.set_cons_succ, hd_]; rfl)) hb_ rfl (fun h => by cases h)
    · intro w0_ hF_ hd_ Q_ K_ hK_
      have hc0_ := (bcell hF_).1
      have hf0_ := (bcell hF_).2
      have hz0_ := hF_.size; (try simp at hz0_)
      (try simp at hc0_ hf0_)
      have : g < w0_.heap.size := by omega
      have : g' < w0_.heap.size := by omega
      simp only [DepsR, Region.binds, Nat.zero_add, Nat.reduceAdd, true_implies, Bool.false_eq_true, false_implies, and_true, true_and, BEq.rfl, reduceCtorEq] at hd_
      go_simp
      exact hK_.out _ _ _ (by first | rfl | (simp only [Act.put, List.setIfInBounds_toArray, List.set_cons_zero, List.set_cons_succ, hd_]; done) | (simp only [Act.put, List.setIfInBounds_toArray, List.set_cons_zero, List.set_cons_succ, hd_]; rfl)) (Below.refl _ _) rfl (fun h => by cases h)
    · intro w0_ hF_ hd_ Q_ K_ hK_
      have hc0_ := (bcell hF_).1
      have hf0_ := (bcell hF_).2
      have hz0_ := hF_.size; (try simp at hz0_)
      (try simp at hc0_ hf0_)
      have : g < w0_.heap.size := by omega
      have : g' < w0_.heap.size := by omega
      simp only [DepsR, Region.binds, Nat.zero_add, Nat.reduceAdd, true_implies, Bool.false_eq_true, false_implies, and_true, true_and, BEq.rfl, reduceCtorEq] at hd_
      go_simp
      exact hK_.out _ _ _ (by first | rfl | (simp only [Act.put, List.setIfInBounds_toArray, List.set_cons_zero, List.set_cons_succ, hd_]; done) | (simp only [Act.put, List.setIfInBounds_toArray, List.set_cons_zero, List.set_cons_succ, hd_]; rfl)) (Below.refl _ _) rfl (fun h => by cases h)
  · intro vs w6 hBw6 hA_ hD_
    simp only [AllR, Nat.zero_add, Nat.reduceAdd, and_true] at hA_
    obtain ⟨r0_, r1_, r2_, r3_, r4_, r5_, r6_, r7_, r8_, r9_, r10_, r11_, r12_, r13_, r14_, r15_, r16_, r17_⟩ := hA_
    clear hD_
    simp only [putAll, Act.put, List.setIfInBounds_toArray, List.set_cons_zero, List.set_cons_succ, Nat.zero_add, Nat.reduceAdd, r0_, r1_, r2_, r3_, r4_, r5_, r6_, r7_, r8_, r9_, r10_, r11_, r12_, r13_, r14_, r15_, r16_, r17_]
    clear r0_ r1_ r2_ r3_ r4_ r5_ r6_ r7_ r8_ r9_ r10_ r11_ r12_ r13_ r14_ r15_ r16_ r17_
    obtain ⟨hcw6, hfw6⟩ := bcell hBw6; (try simp only [World.size_drew, World.cell?_drew, World.frozen?_drew] at hcw6 hfw6); have hzw6 := hBw6.size; (try simp at hzw6)
    have : g < w6.heap.size := by omega
    have : g' < w6.heap.size := by omega
    have rS6 := Lib.hid (rS5.out.on hBw6)
    have HR6 := Lib.hid (HR5.out.on hBw6)
    have HB6 : Hid (Below w.heap.size w w6) := HB5.out.trans (hBw6.mono HB5.out.size)
    have HV6 : Hid (EV w6 ev) := hEV.out _ _ _ HV5.out hBw6
    clear hBw6 hcw6 hfw6 hzw6 q1 q2 q3 hgl hgl' rS5 HR5 HB5 HV5 HD j0 j1 j2 j3
    have q2 := (HR6.out.cell 257).trans G2.out
    have q3 := (HR6.out.cell 258).trans G3.out
    have hgl : g < w6.heap.size := rS6.out.lt
    have hgl' : g' < w6.heap.size := HR6.out.lt
    go_upto_region 9 with fail
    by_cases h0 : cc = 0
    · subst h0
      refine wp_region_keep (t := fun j => j) (al := fun _ => false) (loud := fun _ => false)
        (R := fun j v u w' => match j with
          | 0 => v = .pointer (some ⟨g', 257, none⟩)
          | 1 => v = .int .i64 0
          | 2 => v = .bool true
          | 3 => v = .bool true
          | 4 => v = undef
          | 5 => v = undef
          | 6 => v = undef
          | 7 => v = undef
          | 8 => v = undef
          | 9 => v = .bool true
          | 10 => v = .bool true
          | _ => True) (by kernel_rfl) (by kernel_rfl) (by kernel_rfl) ?_ ?_ ?_ ?_
      · intro j v u w1_ w2_ h_ hF_ hB_
        (try dsimp only at h_ ⊢)
        split at h_ <;> first | (with_reducible exact h_) | (with_reducible exact NewR.on h_ hB_) | (with_reducible exact HasR.on h_ hB_) | exact IsNum.on h_ hB_ | exact HasNum.on h_ hB_ | exact RHeld.on h_ hB_ | trivial | exact h_
      · intro j v u w1_ h1_ h_
        cases h1_
      · intro vs
        simp only [putAll, Act.put, List.setIfInBounds_toArray, List.set_cons_zero, List.set_cons_succ, Nat.zero_add, Nat.reduceAdd]
        refine ⟨?_, ?_, ?_, ?_, ?_, ?_, ?_, ?_, ?_, ?_, ?_, trivial⟩
        · intro w0_ hF_ hd_ Q_ K_ hK_
          have hc0_ := (bcell hF_).1
          have hf0_ := (bcell hF_).2
          have hz0_ := hF_.size; (try simp at hz0_)
          (try simp at hc0_ hf0_)
          have : g < w0_.heap.size := by omega
          have : g' < w0_.heap.size := by omega
          simp only [DepsR, Region.binds, Nat.zero_add, Nat.reduceAdd, true_implies, Bool.false_eq_true, false_implies, and_true, true_and, BEq.rfl, reduceCtorEq] at hd_
          go_simp
          exact hK_.out _ _ _ (by first | rfl | (simp only [Act.put, List.setIfInBounds_toArray, List.set_cons_zero, List.set_cons_succ, hd_]; done) | (simp only [Act.put, List.setIfInBounds_toArray, List.set_cons_zero, List.set_cons_succ, hd_]; rfl)) (Below.refl _ _) rfl (fun h => by cases h)
        · intro w0_ hF_ hd_ Q_ K_ hK_
          have hc0_ := (bcell hF_).1
          have hf0_ := (bcell hF_).2
          have hz0_ := hF_.size; (try simp at hz0_)
          (try simp at hc0_ hf0_)
          have : g < w0_.heap.size := by omega
          have : g' < w0_.heap.size := by omega
          simp only [DepsR, Region.binds, Nat.zero_add, Nat.reduceAdd, true_implies, Bool.false_eq_true, false_implies, and_true, true_and, BEq.rfl, reduceCtorEq] at hd_
          go_simp
          exact hK_.out _ _ _ (by first | rfl | (simp only [Act.put, List.setIfInBounds_toArray, List.set_cons_zero, List.set_cons_succ, hd_]; done) | (simp only [Act.put, List.setIfInBounds_toArray, List.set_cons_zero, List.set_cons_succ, hd_]; rfl)) (Below.refl _ _) rfl (fun h => by cases h)
        · intro w0_ hF_ hd_ Q_ K_ hK_
          have hc0_ := (bcell hF_).1
          have hf0_ := (bcell hF_).2
          have hz0_ := hF_.size; (try simp at hz0_)
          (try simp at hc0_ hf0_)
          have : g < w0_.heap.size := by omega
          have : g' < w0_.heap.size := by omega
          simp only [DepsR, Region.binds, Nat.zero_add, Nat.reduceAdd, true_implies, Bool.false_eq_true, false_implies, and_true, true_and, BEq.rfl, reduceCtorEq] at hd_
          go_simp
          exact hK_.out _ _ _ (by first | rfl | (simp only [Act.put, List.setIfInBounds_toArray, List.set_cons_zero, List.set_cons_succ, hd_]; done) | (simp only [Act.put, List.setIfInBounds_toArray, List.set_cons_zero, List.set_cons_succ, hd_]; rfl)) (Below.refl _ _) rfl (fun h => by cases h)
        · intro w0_ hF_ hd_ Q_ K_ hK_
          have hc0_ := (bcell hF_).1
          have hf0_ := (bcell hF_).2
          have hz0_ := hF_.size; (try simp at hz0_)
          (try simp at hc0_ hf0_)
          have : g < w0_.heap.size := by omega
          have : g' < w0_.heap.size := by omega
          simp only [DepsR, Region.binds, Nat.zero_add, Nat.reduceAdd, true_implies, Bool.false_eq_true, false_implies, and_true, true_and, BEq.rfl, reduceCtorEq] at hd_
          go_simp
          exact hK_.out _ _ _ (by first | rfl | (simp only [Act.put, List.setIfInBounds_toArray, List.set_cons_zero, List.set_cons_succ, hd_]; done) | (simp only [Act.put, List.setIfInBounds_toArray, List.set_cons_zero, List.set_cons_succ, hd_]; rfl)) (Below.refl _ _) rfl (fun h => by cases h)
        · intro w0_ hF_ hd_ Q_ K_ hK_
          have hc0_ := (bcell hF_).1
          have hf0_ := (bcell hF_).2
          have hz0_ := hF_.size; (try simp at hz0_)
          (try simp at hc0_ hf0_)
          have : g < w0_.heap.size := by omega
          have : g' < w0_.heap.size := by omega
          simp only [DepsR, Region.binds, Nat.zero_add, Nat.reduceAdd, true_implies, Bool.false_eq_true, false_implies, and_true, true_and, BEq.rfl, reduceCtorEq] at hd_
          go_simp
          exact hK_.out _ _ _ (by first | rfl | (simp only [Act.put, List.setIfInBounds_toArray, List.set_cons_zero, List.set_cons_succ, hd_]; done) | (simp only [Act.put, List.setIfInBounds_toArray, List.set_cons_zero, List.set_cons_succ, hd_]; rfl)) (Below.refl _ _) rfl (fun h => by cases h)
        · intro w0_ hF_ hd_ Q_ K_ hK_
          have hc0_ := (bcell hF_).1
          have hf0_ := (bcell hF_).2
          have hz0_ := hF_.size; (try simp at hz0_)
          (try simp at hc0_ hf0_)
          have : g < w0_.heap.size := by omega
          have : g' < w0_.heap.size := by omega
          simp only [DepsR, Region.binds, Nat.zero_add, Nat.reduceAdd, true_implies, Bool.false_eq_true, false_implies, and_true, true_and, BEq.rfl, reduceCtorEq] at hd_
          go_simp
          exact hK_.out _ _ _ (by first | rfl | (simp only [Act.put, List.setIfInBounds_toArray, List.set_cons_zero, List.set_cons_succ, hd_]; done) | (simp only [Act.put, List.setIfInBounds_toArray, List.set_cons_zero, List.set_cons_succ, hd_]; rfl)) (Below.refl _ _) rfl (fun h => by cases h)
        · intro w0_ hF_ hd_ Q_ K_ hK_
          have hc0_ := (bcell hF_).1
          have hf0_ := (bcell hF_).2
          have hz0_ := hF_.size; (try simp at hz0_)
          (try simp at hc0_ hf0_)
          have : g < w0_.heap.size := by omega
          have : g' < w0_.heap.size := by omega
          simp only [DepsR, Region.binds, Nat.zero_add, Nat.reduceAdd, true_implies, Bool.false_eq_true, false_implies, and_true, true_and, BEq.rfl, reduceCtorEq] at hd_
          go_simp
          exact hK_.out _ _ _ (by first | rfl | (simp only [Act.put, List.setIfInBounds_toArray, List.set_cons_zero, List.set_cons_succ, hd_]; done) | (simp only [Act.put, List.setIfInBounds_toArray, List.set_cons_zero, List.set_cons_succ, hd_]; rfl)) (Below.refl _ _) rfl (fun h => by cases h)
        · intro w0_ hF_ hd_ Q_ K_ hK_
          have hc0_ := (bcell hF_).1
          have hf0_ := (bcell hF_).2
          have hz0_ := hF_.size; (try simp at hz0_)
          (try simp at hc0_ hf0_)
          have : g < w0_.heap.size := by omega
          have : g' < w0_.heap.size := by omega
          simp only [DepsR, Region.binds, Nat.zero_add, Nat.reduceAdd, true_implies, Bool.false_eq_true, false_implies, and_true, true_and, BEq.rfl, reduceCtorEq] at hd_
          go_simp
          exact hK_.out _ _ _ (by first | rfl | (simp only [Act.put, List.setIfInBounds_toArray, List.set_cons_zero, List.set_cons_succ, hd_]; done) | (simp only [Act.put, List.setIfInBounds_toArray, List.set_cons_zero, List.set_cons_succ, hd_]; rfl)) (Below.refl _ _) rfl (fun h => by cases h)
        · intro w0_ hF_ hd_ Q_ K_ hK_
          have hc0_ := (bcell hF_).1
          have hf0_ := (bcell hF_).2
          have hz0_ := hF_.size; (try simp at hz0_)
          (try simp at hc0_ hf0_)
          have : g < w0_.heap.size := by omega
          have : g' < w0_.heap.size := by omega
          simp only [DepsR, Region.binds, Nat.zero_add, Nat.reduceAdd, true_implies, Bool.false_eq_true, false_implies, and_true, true_and, BEq.rfl, reduceCtorEq] at hd_
          go_simp
          exact hK_.out _ _ _ (by first | rfl | (simp only [Act.put, List.setIfInBounds_toArray, List.set_cons_zero, List.set_cons_succ, hd_]; done) | (simp only [Act.put, List.setIfInBounds_toArray, List.set_cons_zero, List.set_cons_succ, hd_]; rfl)) (Below.refl _ _) rfl (fun h => by cases h)
        · intro w0_ hF_ hd_ Q_ K_ hK_
          have hc0_ := (bcell hF_).1
          have hf0_ := (bcell hF_).2
          have hz0_ := hF_.size; (try simp at hz0_)
          (try simp at hc0_ hf0_)
          have : g < w0_.heap.size := by omega
          have : g' < w0_.heap.size := by omega
          simp only [DepsR, Region.binds, Nat.zero_add, Nat.reduceAdd, true_implies, Bool.false_eq_true, false_implies, and_true, true_and, BEq.rfl, reduceCtorEq] at hd_
          go_simp
          exact hK_.out _ _ _ (by first | rfl | (simp only [Act.put, List.setIfInBounds_toArray, List.set_cons_zero, List.set_cons_succ, hd_]; done) | (simp only [Act.put, List.setIfInBounds_toArray, List.set_cons_zero, List.set_cons_succ, hd_]; rfl)) (Below.refl _ _) rfl (fun h => by cases h)
        · intro w0_ hF_ hd_ Q_ K_ hK_
          have hc0_ := (bcell hF_).1
          have hf0_ := (bcell hF_).2
          have hz0_ := hF_.size; (try simp at hz0_)
          (try simp at hc0_ hf0_)
          have : g < w0_.heap.size := by omega
          have : g' < w0_.heap.size := by omega
          simp only [DepsR, Region.binds, Nat.zero_add, Nat.reduceAdd, true_implies, Bool.false_eq_true, false_implies, and_true, true_and, BEq.rfl, reduceCtorEq] at hd_
          go_simp
          exact hK_.out _ _ _ (by first | rfl | (simp only [Act.put, List.setIfInBounds_toArray, List.set_cons_zero, List.set_cons_succ, hd_]; done) | (simp only [Act.put, List.setIfInBounds_toArray, List.set_cons_zero, List.set_cons_succ, hd_]; rfl)) (Below.refl _ _) rfl (fun h => by cases h)
      · intro vs w7 hBw7 hA_ hD_
        simp only [AllR, Nat.zero_add, Nat.reduceAdd, and_true] at hA_
        obtain ⟨r0_, r1_, r2_, r3_, r4_, r5_, r6_, r7_, r8_, r9_, r10_⟩ := hA_
        clear hD_
        simp only [putAll, Act.put, List.setIfInBounds_toArray, List.set_cons_zero, List.set_cons_succ, Nat.zero_add, Nat.reduceAdd, r0_, r1_, r2_, r3_, r4_, r5_, r6_, r7_, r8_, r9_, r10_]
        clear r0_ r1_ r2_ r3_ r4_ r5_ r6_ r7_ r8_ r9_ r10_
        obtain ⟨hcw7, hfw7⟩ := bcell hBw7; (try simp only [World.size_drew, World.cell?_drew, World.frozen?_drew] at hcw7 hfw7); have hzw7 := hBw7.size; (try simp at hzw7)
        have : g < w7.heap.size := by omega
        have : g' < w7.heap.size := by omega
        have hB7 : Hid (Below w.heap.size w w7) := HB6.out.trans (hBw7.mono HB6.out.size)
        clear hBw7 hcw7 hfw7
        go_wp2
        go_ret
        exact ⟨rfl, hB7.out⟩
    · have hc0 : (cc == 0) = false := by rw [beq_eq_false_iff_ne]; exact h0
      have HL1 := Lib.hid (HL.out h0)
      clear HL h0
      refine wp_region_keep (t := fun j => j) (al := fun _ => false) (loud := fun _ => false)
        (R := fun j v u w' => match j with
          | 0 => v = .pointer (some ⟨g', 257, none⟩)
          | 1 => v = .int .i64 cc
          | 2 => v = .bool false
          | 3 => v = .bool false
          | 4 => v = ev
          | 5 => v = .int .i64 a
          | 6 => v = .pointer (some ⟨g', 258, none⟩)
          | 7 => v = .int .i64 a
          | 8 => v = .bool true
          | 9 => v = .bool true
          | 10 => v = .bool true
          | _ => True) (by kernel_rfl) (by kernel_rfl) (by kernel_rfl) ?_ ?_ ?_ ?_
      · intro j v u w1_ w2_ h_ hF_ hB_
        (try dsimp only at h_ ⊢)
        split at h_ <;> first | (with_reducible exact h_) | (with_reducible exact NewR.on h_ hB_) | (with_reducible exact HasR.on h_ hB_) | exact IsNum.on h_ hB_ | exact HasNum.on h_ hB_ | exact RHeld.on h_ hB_ | trivial | exact h_
      · intro j v u w1_ h1_ h_
        cases h1_
      · intro vs
        simp only [putAll, Act.put, List.setIfInBounds_toArray, List.set_cons_zero, List.set_cons_succ, Nat.zero_add, Nat.reduceAdd]
        refine ⟨?_, ?_, ?_, ?_, ?_, ?_, ?_, ?_, ?_, ?_, ?_, trivial⟩
        · intro w0_ hF_ hd_ Q_ K_ hK_
          have hc0_ := (bcell hF_).1
          have hf0_ := (bcell hF_).2
          have hz0_ := hF_.size; (try simp at hz0_)
          (try simp at hc0_ hf0_)
          have : g < w0_.heap.size := by omega
          have : g' < w0_.heap.size := by omega
          simp only [DepsR, Region.binds, Nat.zero_add, Nat.reduceAdd, true_implies, Bool.false_eq_true, false_implies, and_true, true_and, BEq.rfl, reduceCtorEq] at hd_
          go_simp
          exact hK_.out _ _ _ (by first | rfl | (simp only [Act.put, List.setIfInBounds_toArray, List.set_cons_zero, List.set_cons_succ, hd_]; done) | (simp only [Act.put, List.setIfInBounds_toArray, List.set_cons_zero, List.set_cons_succ, hd_]; rfl)) (Below.refl _ _) rfl (fun h => by cases h)
        · intro w0_ hF_ hd_ Q_ K_ hK_
          have hc0_ := (bcell hF_).1
          have hf0_ := (bcell hF_).2
          have hz0_ := hF_.size; (try simp at hz0_)
          (try simp at hc0_ hf0_)
          have : g < w0_.heap.size := by omega
          have : g' < w0_.heap.size := by omega
          simp only [DepsR, Region.binds, Nat.zero_add, Nat.reduceAdd, true_implies, Bool.false_eq_true, false_implies, and_true, true_and, BEq.rfl, reduceCtorEq] at hd_
          go_simp
          exact hK_.out _ _ _ (by first | rfl | (simp only [Act.put, List.setIfInBounds_toArray, List.set_cons_zero, List.set_cons_succ, hd_]; done) | (simp only [Act.put, List.setIfInBounds_toArray, List.set_cons_zero, List.set_cons_succ, hd_]; rfl)) (Below.refl _ _) rfl (fun h => by cases h)
        · intro w0_ hF_ hd_ Q_ K_ hK_
          have hc0_ := (bcell hF_).1
          have hf0_ := (bcell hF_).2
          have hz0_ := hF_.size; (try simp at hz0_)
          (try simp at hc0_ hf0_)
          have : g < w0_.heap.size := by omega
          have : g' < w0_.heap.size := by omega
          simp only [DepsR, Region.binds, Nat.zero_add, Nat.reduceAdd, true_implies, Bool.false_eq_true, false_implies, and_true, true_and, BEq.rfl, reduceCtorEq] at hd_
          go_simp
          exact hK_.out _ _ _ (by first | rfl | (simp only [Act.put, List.setIfInBounds_toArray, List.set_cons_zero, List.set_cons_succ, hd_]; done) | (simp only [Act.put, List.setIfInBounds_toArray, List.set_cons_zero, List.set_cons_succ, hd_]; rfl)) (Below.refl _ _) rfl (fun h => by cases h)
        · intro w0_ hF_ hd_ Q_ K_ hK_
          have hc0_ := (bcell hF_).1
          have hf0_ := (bcell hF_).2
          have hz0_ := hF_.size; (try simp at hz0_)
          (try simp at hc0_ hf0_)
          have : g < w0_.heap.size := by omega
          have : g' < w0_.heap.size := by omega
          simp only [DepsR, Region.binds, Nat.zero_add, Nat.reduceAdd, true_implies, Bool.false_eq_true, false_implies, and_true, true_and, BEq.rfl, reduceCtorEq] at hd_
          go_simp
          exact hK_.out _ _ _ (by first | rfl | (simp only [Act.put, List.setIfInBounds_toArray, List.set_cons_zero, List.set_cons_succ, hd_]; done) | (simp only [Act.put, List.setIfInBounds_toArray, List.set_cons_zero, List.set_cons_succ, hd_]; rfl)) (Below.refl _ _) rfl (fun h => by cases h)
        · intro w0_ hF_ hd_ Q_ K_ hK_
          have hc0_ := (bcell hF_).1
          have hf0_ := (bcell hF_).2
          have hz0_ := hF_.size; (try simp at hz0_)
          (try simp at hc0_ hf0_)
          have : g < w0_.heap.size := by omega
          have : g' < w0_.heap.size := by omega
          simp only [DepsR, Region.binds, Nat.zero_add, Nat.reduceAdd, true_implies, Bool.false_eq_true, false_implies, and_true, true_and, BEq.rfl, reduceCtorEq] at hd_
          go_simp
          exact hK_.out _ _ _ (by first | rfl | (simp only [Act.put, List.setIfInBounds_toArray, List.set_cons_zero, List.set_cons_succ, hd_]; done) | (simp only [Act.put, List.setIfInBounds_toArray, List.set_cons_zero, List.set_cons_succ, hd_]; rfl)) (Below.refl _ _) rfl (fun h => by cases h)
        · intro w0_ hF_ hd_ Q_ K_ hK_
          have hc0_ := (bcell hF_).1
          have hf0_ := (bcell hF_).2
          have hz0_ := hF_.size; (try simp at hz0_)
          (try simp at hc0_ hf0_)
          have : g < w0_.heap.size := by omega
          have : g' < w0_.heap.size := by omega
          simp only [DepsR, Region.binds, Nat.zero_add, Nat.reduceAdd, true_implies, Bool.false_eq_true, false_implies, and_true, true_and, BEq.rfl, reduceCtorEq] at hd_
          go_simp
          refine (HL1.out _ _ (below_on HB6.out hF_) (hEV.out _ _ _ HV6.out hF_)).mono ?_
          rintro e_ w1_ ⟨rfl, hb_⟩
          exact hK_.out _ _ _ (by first | rfl | (simp only [Act.put, List.setIfInBounds_toArray, List.set_cons_zero, List.set_cons_succ, hd_]; done) | (simp only [Act.put, List.setIfInBounds_toArray, List.set_cons_zero, List.set_cons_succ, hd_]; rfl)) hb_ rfl (fun h => by cases h)
        · intro w0_ hF_ hd_ Q_ K_ hK_
          have hc0_ := (bcell hF_).1
          have hf0_ := (bcell hF_).2
          have hz0_ := hF_.size; (try simp at hz0_)
          (try simp at hc0_ hf0_)
          have : g < w0_.heap.size := by omega
          have : g' < w0_.heap.size := by omega
          simp only [DepsR, Region.binds, Nat.zero_add, Nat.reduceAdd, true_implies, Bool.false_eq_true, false_implies, and_true, true_and, BEq.rfl, reduceCtorEq] at hd_
          go_simp
          exact hK_.out _ _ _ (by first | rfl | (simp only [Act.put, List.setIfInBounds_toArray, List.set_cons_zero, List.set_cons_succ, hd_]; done) | (simp only [Act.put, List.setIfInBounds_toArray, List.set_cons_zero, List.set_cons_succ, hd_]; rfl)) (Below.refl _ _) rfl (fun h => by cases h)
        · intro w0_ hF_ hd_ Q_ K_ hK_
          have hc0_ := (bcell hF_).1
          have hf0_ := (bcell hF_).2
          have hz0_ := hF_.size; (try simp at hz0_)
          (try simp at hc0_ hf0_)
          have : g < w0_.heap.size := by omega
          have : g' < w0_.heap.size := by omega
          simp only [DepsR, Region.binds, Nat.zero_add, Nat.reduceAdd, true_implies, Bool.false_eq_true, false_implies, and_true, true_and, BEq.rfl, reduceCtorEq] at hd_
          go_simp
          exact hK_.out _ _ _ (by first | rfl | (simp only [Act.put, List.setIfInBounds_toArray, List.set_cons_zero, List.set_cons_succ, hd_]; done) | (simp only [Act.put, List.setIfInBounds_toArray, List.set_cons_zero, List.set_cons_succ, hd_]; rfl)) (Below.refl _ _) rfl (fun h => by cases h)
        · intro w0_ hF_ hd_ Q_ K_ hK_
          have hc0_ := (bcell hF_).1
          have hf0_ := (bcell hF_).2
          have hz0_ := hF_.size; (try simp at hz0_)
          (try simp at hc0_ hf0_)
          have : g < w0_.heap.size := by omega
          have : g' < w0_.heap.size := by omega
          simp only [DepsR, Region.binds, Nat.zero_add, Nat.reduceAdd, true_implies, Bool.false_eq_true, false_implies, and_true, true_and, BEq.rfl, reduceCtorEq] at hd_
          go_simp
          exact hK_.out _ _ _ (by first | rfl | (simp only [Act.put, List.setIfInBounds_toArray, List.set_cons_zero, List.set_cons_succ, hd_]; done) | (simp only [Act.put, List.setIfInBounds_toArray, List.set_cons_zero, List.set_cons_succ, hd_]; rfl)) (Below.refl _ _) rfl (fun h => by cases h)
        · intro w0_ hF_ hd_ Q_ K_ hK_
          have hc0_ := (bcell hF_).1
          have hf0_ := (bcell hF_).2
          have hz0_ := hF_.size; (try simp at hz0_)
          (try simp at hc0_ hf0_)
          have : g < w0_.heap.size := by omega
          have : g' < w0_.heap.size := by omega
          simp only [DepsR, Region.binds, Nat.zero_add, Nat.reduceAdd, true_implies, Bool.false_eq_true, false_implies, and_true, true_and, BEq.rfl, reduceCtorEq] at hd_
          go_simp
          exact hK_.out _ _ _ (by first | rfl | (simp only [Act.put, List.setIfInBounds_toArray, List.set_cons_zero, List.set_cons_succ, hd_]; done) | (simp only [Act.put, List.setIfInBounds_toArray, List.set_cons_zero, List.set_cons_succ, hd_]; rfl)) (Below.refl _ _) rfl (fun h => by cases h)
        · intro w0_ hF_ hd_ Q_ K_ hK_
          have hc0_ := (bcell hF_).1
          have hf0_ := (bcell hF_).2
          have hz0_ := hF_.size; (try simp at hz0_)
          (try simp at hc0_ hf0_)
          have : g < w0_.heap.size := by omega
          have : g' < w0_.heap.size := by omega
          simp only [DepsR, Region.binds, Nat.zero_add, Nat.reduceAdd, true_implies, Bool.false_eq_true, false_implies, and_true, true_and, BEq.rfl, reduceCtorEq] at hd_
          go_simp
          exact hK_.out _ _ _ (by first | rfl | (simp only [Act.put, List.setIfInBounds_toArray, List.set_cons_zero, List.set_cons_succ, hd_]; done) | (simp only [Act.put, List.setIfInBounds_toArray, List.set_cons_zero, List.set_cons_succ, hd_]; rfl)) (Below.refl _ _) rfl (fun h => by cases h)
      · intro vs w7 hBw7 hA_ hD_
        simp only [AllR, Nat.zero_add, Nat.reduceAdd, and_true] at hA_
        obtain ⟨r0_, r1_, r2_, r3_, r4_, r5_, r6_, r7_, r8_, r9_, r10_⟩ := hA_
        clear hD_
        simp only [putAll, Act.put, List.setIfInBounds_toArray, List.set_cons_zero, List.set_cons_succ, Nat.zero_add, Nat.reduceAdd, r0_, r1_, r2_, r3_, r4_, r5_, r6_, r7_, r8_, r9_, r10_]
        clear r0_ r1_ r2_ r3_ r4_ r5_ r6_ r7_ r8_ r9_ r10_
        obtain ⟨hcw7, hfw7⟩ := bcell hBw7; (try simp only [World.size_drew, World.cell?_drew, World.frozen?_drew] at hcw7 hfw7); have hzw7 := hBw7.size; (try simp at hzw7)
        have : g < w7.heap.size := by omega
        have : g' < w7.heap.size := by omega
        have hB7 : Hid (Below w.heap.size w w7) := HB6.out.trans (hBw7.mono HB6.out.size)
        clear hBw7 hcw7 hfw7
        go_wp2
        go_ret
        exact ⟨rfl, hB7.out⟩
end Go.Proofs.YtfmekmbdienbjaaDoor
