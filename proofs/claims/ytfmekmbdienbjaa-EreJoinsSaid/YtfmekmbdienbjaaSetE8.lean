/- The contract of Class of charset. -/
import Derived.Test.YtfmekmbdienbjaaSetD
namespace Go.Proofs.Ytfmekmbdienbjaa
set_option linter.unusedSimpArgs false
set_option linter.unusedVariables false
set_option linter.unnecessarySimpa false
open Go.RowKit

set_option maxRecDepth 100000 in
set_option maxHeartbeats 8000000 in
theorem class_punct (w : World) (s : ByteArray) (hs : s.toList = [112, 117, 110, 99, 116]) :
    Calls Try.prog 44 #[.string s] w fun e w' => e = .returned (.tuple #[setV (rgsF nonP [33, 47, 58, 64, 91, 96, 123, 126]), .bool true]) ∧ Below w.heap.size w w' := by
  obtain ⟨Q24, hQ24⟩ : ∃ Q, Q = rgsF nonP [33, 47, 58, 64, 91, 96, 123, 126] := ⟨_, rfl⟩
  have C24 : Hid (∀ W, Calls Try.prog 50 #[.string ⟨#[33, 47, 58, 64, 91, 96, 123, 126]⟩] W fun e w' => e = .returned (setV Q24) ∧ Below W.heap.size W w') := fun W => by rw [hQ24]; exact ranges_u [33, 47, 58, 64, 91, 96, 123, 126] 4 rfl (by decide) W
  have HG : Q24 = (rgsF nonP [33, 47, 58, 64, 91, 96, 123, 126]) := by (try subst hQ24); rfl
  rw [← HG]
  clear HG
  clear hQ24
  have t0 : (s.toList == [97, 108, 110, 117, 109]) = false := by rw [hs]; rfl
  have t1 : (s.toList == [97, 108, 112, 104, 97]) = false := by rw [hs]; rfl
  have t2 : (s.toList == [117, 112, 112, 101, 114]) = false := by rw [hs]; rfl
  have t3 : (s.toList == [108, 111, 119, 101, 114]) = false := by rw [hs]; rfl
  have t4 : (s.toList == [120, 100, 105, 103, 105, 116]) = false := by rw [hs]; rfl
  have t5 : (s.toList == [100, 105, 103, 105, 116]) = false := by rw [hs]; rfl
  have t6 : (s.toList == [115, 112, 97, 99, 101]) = false := by rw [hs]; rfl
  have t7 : (s.toList == [98, 108, 97, 110, 107]) = false := by rw [hs]; rfl
  have t8 : (s.toList == [112, 114, 105, 110, 116]) = false := by rw [hs]; rfl
  have t9 : (s.toList == [103, 114, 97, 112, 104]) = false := by rw [hs]; rfl
  have t10 : (s.toList == [112, 117, 110, 99, 116]) = true := by rw [hs]; rfl
  clear hs
  have H0 := Lib.hid nonP_A
  go_enter Try.func44, Try.ntmps44
  go_upto_region 1 with fail
  have r : Row (w.alloc (.cells #[.int .u64 0, .int .u64 0, .int .u64 0, .int .u64 0] 26)) w.heap.size 26 (setA nonP) := by rw [H0.out]; exact Row.new w _ _
  have hB : Below w.heap.size w (w.alloc (.cells #[.int .u64 0, .int .u64 0, .int .u64 0, .int .u64 0] 26)) := by repeat (first | (with_reducible exact Below.refl _ _) | (with_reducible refine Below.drew ?_) | (refine Below.setCell ?_ (by first | exact Nat.le_refl _ | (simp; done) | (simp; omega) | omega) _) | (refine Below.alloc ?_ (by first | exact Nat.le_refl _ | (simp; done) | (simp; omega) | omega) _) | (refine Below.trans ?_ (Below.mono (by assumption) (by first | exact Nat.le_refl _ | (simp; done) | (simp; omega) | omega))))
  clear H0
  generalize (w.alloc (.cells #[.int .u64 0, .int .u64 0, .int .u64 0, .int .u64 0] 26)) = w1 at *
  have k0 := r.cell 0
  have k1 := r.cell 1
  have k2 := r.cell 2
  have k3 := r.cell 3
  have f0 := r.froz 0
  have f1 := r.froz 1
  have f2 := r.froz 2
  have f3 := r.froz 3
  simp only [setA, List.getElem?_toArray, List.getElem?_cons_zero, List.getElem?_cons_succ] at k0 k1 k2 k3
  have z0 := r.lt
  have hzB := hB.size
  have RR0 := Lib.hid (And.intro r hB)
  clear r
  go_wp2_with fail
  refine (C24.out _).mono ?_; rintro eu0 u0 ⟨rfl, hbu0⟩; obtain ⟨hcu0, hfu0⟩ := bcell hbu0; (try simp only [World.size_drew, World.cell?_drew, World.frozen?_drew] at hcu0 hfu0); have hzu0 := hbu0.size; (try simp at hzu0); have : w.heap.size < u0.heap.size := (by omega); (try dsimp only)
  go_upto_region 27 with fail
  obtain ⟨r, hB0⟩ := RR0.out
  have r1 : Row u0 w.heap.size 26 (setA nonP) := Row.onb r hbu0 z0
  have r2 : Row ((((u0.setCell ⟨w.heap.size, 0, none⟩ (.int .u64 ((wd Q24 0 : Nat) : Int))).setCell ⟨w.heap.size, 1, none⟩ (.int .u64 ((wd Q24 1 : Nat) : Int))).setCell ⟨w.heap.size, 2, none⟩ (.int .u64 ((wd Q24 2 : Nat) : Int))).setCell ⟨w.heap.size, 3, none⟩ (.int .u64 ((wd Q24 3 : Nat) : Int))) w.heap.size 26 (setA Q24) := (((r1.set 0 _).set 1 _).set 2 _).set 3 _
  have hB2 : Below w.heap.size w ((((u0.setCell ⟨w.heap.size, 0, none⟩ (.int .u64 ((wd Q24 0 : Nat) : Int))).setCell ⟨w.heap.size, 1, none⟩ (.int .u64 ((wd Q24 1 : Nat) : Int))).setCell ⟨w.heap.size, 2, none⟩ (.int .u64 ((wd Q24 2 : Nat) : Int))).setCell ⟨w.heap.size, 3, none⟩ (.int .u64 ((wd Q24 3 : Nat) : Int))) := by repeat (first | (with_reducible exact Below.refl _ _) | (with_reducible refine Below.drew ?_) | (refine Below.setCell ?_ (by first | exact Nat.le_refl _ | (simp; done) | (simp; omega) | omega) _) | (refine Below.alloc ?_ (by first | exact Nat.le_refl _ | (simp; done) | (simp; omega) | omega) _) | (refine Below.trans ?_ (Below.mono (by assumption) (by first | exact Nat.le_refl _ | (simp; done) | (simp; omega) | omega))))
  clear r r1 hB0 hcu0 hfu0 hbu0 hzu0 k0 k1 k2 k3 f0 f1 f2 f3 z0 hB hzB RR0
  rename Row _ _ _ _ => r
  rename Below _ _ _ => hB
  generalize ((((u0.setCell ⟨w.heap.size, 0, none⟩ (.int .u64 ((wd Q24 0 : Nat) : Int))).setCell ⟨w.heap.size, 1, none⟩ (.int .u64 ((wd Q24 1 : Nat) : Int))).setCell ⟨w.heap.size, 2, none⟩ (.int .u64 ((wd Q24 2 : Nat) : Int))).setCell ⟨w.heap.size, 3, none⟩ (.int .u64 ((wd Q24 3 : Nat) : Int))) = x0 at *
  have k0 := r.cell 0
  have k1 := r.cell 1
  have k2 := r.cell 2
  have k3 := r.cell 3
  have f0 := r.froz 0
  have f1 := r.froz 1
  have f2 := r.froz 2
  have f3 := r.froz 3
  simp only [setA, List.getElem?_toArray, List.getElem?_cons_zero, List.getElem?_cons_succ] at k0 k1 k2 k3
  have z0 := r.lt
  clear r
  go_wp2
  refine bodyPost_ret (v := .tuple #[setV Q24, .bool true]) (by simp [results, Try.results44, go_sem, *]) rfl ⟨rfl, ?_⟩
  repeat (first | (with_reducible exact Below.refl _ _) | (with_reducible refine Below.drew ?_) | (refine Below.setCell ?_ (by first | exact Nat.le_refl _ | (simp; done) | (simp; omega) | omega) _) | (refine Below.alloc ?_ (by first | exact Nat.le_refl _ | (simp; done) | (simp; omega) | omega) _) | (refine Below.trans ?_ (Below.mono (by assumption) (by first | exact Nat.le_refl _ | (simp; done) | (simp; omega) | omega))))

set_option maxRecDepth 100000 in
set_option maxHeartbeats 8000000 in
theorem class_cntrl (w : World) (s : ByteArray) (hs : s.toList = [99, 110, 116, 114, 108]) :
    Calls Try.prog 44 #[.string s] w fun e w' => e = .returned (.tuple #[setV (rgsF nonP [0, 31, 127, 127]), .bool true]) ∧ Below w.heap.size w w' := by
  obtain ⟨Q25, hQ25⟩ : ∃ Q, Q = rgsF nonP [0, 31, 127, 127] := ⟨_, rfl⟩
  have C25 : Hid (∀ W, Calls Try.prog 50 #[.string ⟨#[0, 31, 127, 127]⟩] W fun e w' => e = .returned (setV Q25) ∧ Below W.heap.size W w') := fun W => by rw [hQ25]; exact ranges_u [0, 31, 127, 127] 2 rfl (by decide) W
  have HG : Q25 = (rgsF nonP [0, 31, 127, 127]) := by (try subst hQ25); rfl
  rw [← HG]
  clear HG
  clear hQ25
  have t0 : (s.toList == [97, 108, 110, 117, 109]) = false := by rw [hs]; rfl
  have t1 : (s.toList == [97, 108, 112, 104, 97]) = false := by rw [hs]; rfl
  have t2 : (s.toList == [117, 112, 112, 101, 114]) = false := by rw [hs]; rfl
  have t3 : (s.toList == [108, 111, 119, 101, 114]) = false := by rw [hs]; rfl
  have t4 : (s.toList == [120, 100, 105, 103, 105, 116]) = false := by rw [hs]; rfl
  have t5 : (s.toList == [100, 105, 103, 105, 116]) = false := by rw [hs]; rfl
  have t6 : (s.toList == [115, 112, 97, 99, 101]) = false := by rw [hs]; rfl
  have t7 : (s.toList == [98, 108, 97, 110, 107]) = false := by rw [hs]; rfl
  have t8 : (s.toList == [112, 114, 105, 110, 116]) = false := by rw [hs]; rfl
  have t9 : (s.toList == [103, 114, 97, 112, 104]) = false := by rw [hs]; rfl
  have t10 : (s.toList == [112, 117, 110, 99, 116]) = false := by rw [hs]; rfl
  have t11 : (s.toList == [99, 110, 116, 114, 108]) = true := by rw [hs]; rfl
  clear hs
  have H0 := Lib.hid nonP_A
  go_enter Try.func44, Try.ntmps44
  go_upto_region 1 with fail
  have r : Row (w.alloc (.cells #[.int .u64 0, .int .u64 0, .int .u64 0, .int .u64 0] 26)) w.heap.size 26 (setA nonP) := by rw [H0.out]; exact Row.new w _ _
  have hB : Below w.heap.size w (w.alloc (.cells #[.int .u64 0, .int .u64 0, .int .u64 0, .int .u64 0] 26)) := by repeat (first | (with_reducible exact Below.refl _ _) | (with_reducible refine Below.drew ?_) | (refine Below.setCell ?_ (by first | exact Nat.le_refl _ | (simp; done) | (simp; omega) | omega) _) | (refine Below.alloc ?_ (by first | exact Nat.le_refl _ | (simp; done) | (simp; omega) | omega) _) | (refine Below.trans ?_ (Below.mono (by assumption) (by first | exact Nat.le_refl _ | (simp; done) | (simp; omega) | omega))))
  clear H0
  generalize (w.alloc (.cells #[.int .u64 0, .int .u64 0, .int .u64 0, .int .u64 0] 26)) = w1 at *
  have k0 := r.cell 0
  have k1 := r.cell 1
  have k2 := r.cell 2
  have k3 := r.cell 3
  have f0 := r.froz 0
  have f1 := r.froz 1
  have f2 := r.froz 2
  have f3 := r.froz 3
  simp only [setA, List.getElem?_toArray, List.getElem?_cons_zero, List.getElem?_cons_succ] at k0 k1 k2 k3
  have z0 := r.lt
  have hzB := hB.size
  have RR0 := Lib.hid (And.intro r hB)
  clear r
  go_wp2_with fail
  refine (C25.out _).mono ?_; rintro eu0 u0 ⟨rfl, hbu0⟩; obtain ⟨hcu0, hfu0⟩ := bcell hbu0; (try simp only [World.size_drew, World.cell?_drew, World.frozen?_drew] at hcu0 hfu0); have hzu0 := hbu0.size; (try simp at hzu0); have : w.heap.size < u0.heap.size := (by omega); (try dsimp only)
  go_upto_region 27 with fail
  obtain ⟨r, hB0⟩ := RR0.out
  have r1 : Row u0 w.heap.size 26 (setA nonP) := Row.onb r hbu0 z0
  have r2 : Row ((((u0.setCell ⟨w.heap.size, 0, none⟩ (.int .u64 ((wd Q25 0 : Nat) : Int))).setCell ⟨w.heap.size, 1, none⟩ (.int .u64 ((wd Q25 1 : Nat) : Int))).setCell ⟨w.heap.size, 2, none⟩ (.int .u64 ((wd Q25 2 : Nat) : Int))).setCell ⟨w.heap.size, 3, none⟩ (.int .u64 ((wd Q25 3 : Nat) : Int))) w.heap.size 26 (setA Q25) := (((r1.set 0 _).set 1 _).set 2 _).set 3 _
  have hB2 : Below w.heap.size w ((((u0.setCell ⟨w.heap.size, 0, none⟩ (.int .u64 ((wd Q25 0 : Nat) : Int))).setCell ⟨w.heap.size, 1, none⟩ (.int .u64 ((wd Q25 1 : Nat) : Int))).setCell ⟨w.heap.size, 2, none⟩ (.int .u64 ((wd Q25 2 : Nat) : Int))).setCell ⟨w.heap.size, 3, none⟩ (.int .u64 ((wd Q25 3 : Nat) : Int))) := by repeat (first | (with_reducible exact Below.refl _ _) | (with_reducible refine Below.drew ?_) | (refine Below.setCell ?_ (by first | exact Nat.le_refl _ | (simp; done) | (simp; omega) | omega) _) | (refine Below.alloc ?_ (by first | exact Nat.le_refl _ | (simp; done) | (simp; omega) | omega) _) | (refine Below.trans ?_ (Below.mono (by assumption) (by first | exact Nat.le_refl _ | (simp; done) | (simp; omega) | omega))))
  clear r r1 hB0 hcu0 hfu0 hbu0 hzu0 k0 k1 k2 k3 f0 f1 f2 f3 z0 hB hzB RR0
  rename Row _ _ _ _ => r
  rename Below _ _ _ => hB
  generalize ((((u0.setCell ⟨w.heap.size, 0, none⟩ (.int .u64 ((wd Q25 0 : Nat) : Int))).setCell ⟨w.heap.size, 1, none⟩ (.int .u64 ((wd Q25 1 : Nat) : Int))).setCell ⟨w.heap.size, 2, none⟩ (.int .u64 ((wd Q25 2 : Nat) : Int))).setCell ⟨w.heap.size, 3, none⟩ (.int .u64 ((wd Q25 3 : Nat) : Int))) = x0 at *
  have k0 := r.cell 0
  have k1 := r.cell 1
  have k2 := r.cell 2
  have k3 := r.cell 3
  have f0 := r.froz 0
  have f1 := r.froz 1
  have f2 := r.froz 2
  have f3 := r.froz 3
  simp only [setA, List.getElem?_toArray, List.getElem?_cons_zero, List.getElem?_cons_succ] at k0 k1 k2 k3
  have z0 := r.lt
  clear r
  go_wp2
  refine bodyPost_ret (v := .tuple #[setV Q25, .bool true]) (by simp [results, Try.results44, go_sem, *]) rfl ⟨rfl, ?_⟩
  repeat (first | (with_reducible exact Below.refl _ _) | (with_reducible refine Below.drew ?_) | (refine Below.setCell ?_ (by first | exact Nat.le_refl _ | (simp; done) | (simp; omega) | omega) _) | (refine Below.alloc ?_ (by first | exact Nat.le_refl _ | (simp; done) | (simp; omega) | omega) _) | (refine Below.trans ?_ (Below.mono (by assumption) (by first | exact Nat.le_refl _ | (simp; done) | (simp; omega) | omega))))

end Go.Proofs.Ytfmekmbdienbjaa
