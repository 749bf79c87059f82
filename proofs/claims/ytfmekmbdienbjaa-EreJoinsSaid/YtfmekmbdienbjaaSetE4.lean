/- The contract of Class of charset. -/
import Derived.Test.YtfmekmbdienbjaaSetD
namespace Go.Proofs.Ytfmekmbdienbjaa
set_option linter.unusedSimpArgs false
set_option linter.unusedVariables false
set_option linter.unnecessarySimpa false
open Go.RowKit

set_option maxRecDepth 100000 in
set_option maxHeartbeats 8000000 in
theorem class_alnum (w : World) (s : ByteArray) (hs : s.toList = [97, 108, 110, 117, 109]) :
    Calls Try.prog 44 #[.string s] w fun e w' => e = .returned (.tuple #[setV ((fun x => ((fun x => (rngP 48 57) x || (rngP 97 122) x)) x || (rngP 65 90) x)), .bool true]) ∧ Below w.heap.size w w' := by
  obtain ⟨Q14, hQ14⟩ : ∃ Q, Q = rngP 48 57 := ⟨_, rfl⟩
  have C14 : Hid (∀ W, Calls Try.prog 28 #[.int .u8 48, .int .u8 57] W fun e w' => e = .returned (setV Q14) ∧ Below W.heap.size W w') := fun W => by rw [hQ14]; exact range_u 48 57 W
  obtain ⟨Q15, hQ15⟩ : ∃ Q, Q = rngP 97 122 := ⟨_, rfl⟩
  have C15 : Hid (∀ W, Calls Try.prog 28 #[.int .u8 97, .int .u8 122] W fun e w' => e = .returned (setV Q15) ∧ Below W.heap.size W w') := fun W => by rw [hQ15]; exact range_u 97 122 W
  obtain ⟨Q16, hQ16⟩ : ∃ Q, Q = rngP 65 90 := ⟨_, rfl⟩
  have C16 : Hid (∀ W, Calls Try.prog 28 #[.int .u8 65, .int .u8 90] W fun e w' => e = .returned (setV Q16) ∧ Below W.heap.size W w') := fun W => by rw [hQ16]; exact range_u 65 90 W
  obtain ⟨A15, hA15⟩ : ∃ Q : Nat → Bool, Q = fun x => Q14 x || Q15 x := ⟨_, rfl⟩
  have O15 : Hid (∀ W, Calls Try.prog 37 #[setV Q14, setV Q15] W fun e w' => e = .returned (setV A15) ∧ Below W.heap.size W w') := fun W => or_x Q14 Q15 A15 hA15 W
  obtain ⟨A16, hA16⟩ : ∃ Q : Nat → Bool, Q = fun x => A15 x || Q16 x := ⟨_, rfl⟩
  have O16 : Hid (∀ W, Calls Try.prog 37 #[setV A15, setV Q16] W fun e w' => e = .returned (setV A16) ∧ Below W.heap.size W w') := fun W => or_x A15 Q16 A16 hA16 W
  have HG : A16 = ((fun x => ((fun x => (rngP 48 57) x || (rngP 97 122) x)) x || (rngP 65 90) x)) := by (try subst hA16 hA15 hQ16 hQ15 hQ14); rfl
  rw [← HG]
  clear HG
  clear hA16
  clear hA15
  clear hQ14
  clear hQ15
  clear hQ16
  have t0 : (s.toList == [97, 108, 110, 117, 109]) = true := by rw [hs]; rfl
  clear hs
  have H0 := Lib.hid nonP_A
  go_enter Try.func44, Try.ntmps44
  go_upto_region 1 with fail
  have r : Row (w.alloc (.cells #[.int .u64 0, .int .u64 0, .int .u64 0, .int .u64 0] 26)) w.heap.size 26 (setA nonP) := by rw [H0.out]; exact Row.new w _ _
  have hB : Below w.heap.size w (w.alloc (.cells #[.int .u64 0, .int .u64 0, .int .u64 0, .int .u64 0] 26)) := by repeat (first | (with_reducible exact Below.refl _ _) | (with_reducible refine Below.drew ?_) | (refine Below.setCell ?_ (by first | exact Nat.le_refl _ | (simp; done) | (simp; omega) | omega) _) | (refine Below.alloc ?_ (by first | exact Nat.le_refl _ | (simp; done) | (simp; omega) | omega) _) | (refine Below.trans ?_ (Below.mono (by assumption) (by first | exact Nat.le_refl _ | (simp; done) | (simp; omega) | omega))))
  clear H0
  generalize (w.alloc (.cells #[.int .u64 0, .int .u64 0, .int .u64 0, .int .u64 0] 26)) = w1 at *
  have k0 := r.cell 0
  have k1 := r.cell 1
  have k2 := r.cell 2
  have k3 := r.cell 3
  have f0 := r.froz 0
  have f1 := r.froz 1
  have f2 := r.froz 2
  have f3 := r.froz 3
  simp only [setA, List.getElem?_toArray, List.getElem?_cons_zero, List.getElem?_cons_succ] at k0 k1 k2 k3
  have z0 := r.lt
  have hzB := hB.size
  have RR0 := Lib.hid (And.intro r hB)
  clear r
  go_wp2_with fail
  refine (C14.out _).mono ?_; rintro eu0 u0 ⟨rfl, hbu0⟩; obtain ⟨hcu0, hfu0⟩ := bcell hbu0; (try simp only [World.size_drew, World.cell?_drew, World.frozen?_drew] at hcu0 hfu0); have hzu0 := hbu0.size; (try simp at hzu0); have : w.heap.size < u0.heap.size := (by omega); (try dsimp only)
  go_upto_region 15 with fail
  obtain ⟨r, hB0⟩ := RR0.out
  have r1 : Row u0 w.heap.size 26 (setA nonP) := Row.onb r hbu0 z0
  have r2 : Row ((((u0.setCell ⟨w.heap.size, 0, none⟩ (.int .u64 ((wd Q14 0 : Nat) : Int))).setCell ⟨w.heap.size, 1, none⟩ (.int .u64 ((wd Q14 1 : Nat) : Int))).setCell ⟨w.heap.size, 2, none⟩ (.int .u64 ((wd Q14 2 : Nat) : Int))).setCell ⟨w.heap.size, 3, none⟩ (.int .u64 ((wd Q14 3 : Nat) : Int))) w.heap.size 26 (setA Q14) := (((r1.set 0 _).set 1 _).set 2 _).set 3 _
  have hB2 : Below w.heap.size w ((((u0.setCell ⟨w.heap.size, 0, none⟩ (.int .u64 ((wd Q14 0 : Nat) : Int))).setCell ⟨w.heap.size, 1, none⟩ (.int .u64 ((wd Q14 1 : Nat) : Int))).setCell ⟨w.heap.size, 2, none⟩ (.int .u64 ((wd Q14 2 : Nat) : Int))).setCell ⟨w.heap.size, 3, none⟩ (.int .u64 ((wd Q14 3 : Nat) : Int))) := by repeat (first | (with_reducible exact Below.refl _ _) | (with_reducible refine Below.drew ?_) | (refine Below.setCell ?_ (by first | exact Nat.le_refl _ | (simp; done) | (simp; omega) | omega) _) | (refine Below.alloc ?_ (by first | exact Nat.le_refl _ | (simp; done) | (simp; omega) | omega) _) | (refine Below.trans ?_ (Below.mono (by assumption) (by first | exact Nat.le_refl _ | (simp; done) | (simp; omega) | omega))))
  clear r r1 hB0 hcu0 hfu0 hbu0 hzu0 k0 k1 k2 k3 f0 f1 f2 f3 z0 hB hzB RR0
  rename Row _ _ _ _ => r
  rename Below _ _ _ => hB
  generalize ((((u0.setCell ⟨w.heap.size, 0, none⟩ (.int .u64 ((wd Q14 0 : Nat) : Int))).setCell ⟨w.heap.size, 1, none⟩ (.int .u64 ((wd Q14 1 : Nat) : Int))).setCell ⟨w.heap.size, 2, none⟩ (.int .u64 ((wd Q14 2 : Nat) : Int))).setCell ⟨w.heap.size, 3, none⟩ (.int .u64 ((wd Q14 3 : Nat) : Int))) = x0 at *
  have k0 := r.cell 0
  have k1 := r.cell 1
  have k2 := r.cell 2
  have k3 := r.cell 3
  have f0 := r.froz 0
  have f1 := r.froz 1
  have f2 := r.froz 2
  have f3 := r.froz 3
  simp only [setA, List.getElem?_toArray, List.getElem?_cons_zero, List.getElem?_cons_succ] at k0 k1 k2 k3
  have z0 := r.lt
  have hzB := hB.size
  have RR1 := Lib.hid (And.intro r hB)
  clear r
  go_upto_region 15 with fail
  refine wp_region_held_drew (S := fun _ => True) (by kernel_rfl) trivial (fun hHeld => ?_)
  refine wpAnyH_ready (rs := [0, 1]) (by kernel_rfl) (by simp) (AllReadyH.cons rfl (fun K hK => ?_) (AllReadyH.cons rfl (fun K hK => ?_) AllReadyH.nil))
  · go_simp
    refine hK.out _ _ trivial (fun hHeld2 => ?_)
    clear hK K hHeld; have hHeld := hHeld2; clear hHeld2
    (try simp only [List.getElem_toArray, List.getElem_cons_zero, List.getElem_cons_succ, Act.put, List.setIfInBounds_toArray, List.set_cons_zero, List.set_cons_succ])
    refine wpAnyH_ready (rs := [1]) (by kernel_rfl) (by simp) (AllReadyH.cons rfl (fun K hK => ?_) AllReadyH.nil)
    go_simp
    refine (C15.out _).mono ?_; rintro eu1 u1 ⟨rfl, hbu1⟩; obtain ⟨hcu1, hfu1⟩ := bcell hbu1; (try simp only [World.size_drew, World.cell?_drew, World.frozen?_drew] at hcu1 hfu1); have hzu1 := hbu1.size; (try simp at hzu1); have : w.heap.size < u1.heap.size := (by omega); (try dsimp only)
    refine hK.out _ _ (trivial) (fun hHeld2 => ?_)
    clear hK K hHeld; have hHeld := hHeld2; clear hHeld2
    (try simp only [List.getElem_toArray, List.getElem_cons_zero, List.getElem_cons_succ, Act.put, List.setIfInBounds_toArray, List.set_cons_zero, List.set_cons_succ])
    refine wpAnyH_ready (rs := [2]) (by kernel_rfl) (by simp) (AllReadyH.cons rfl (fun K hK => ?_) AllReadyH.nil)
    go_simp
    refine (O15.out _).mono ?_; rintro ev1 v1 ⟨rfl, hbv1⟩; obtain ⟨hcv1, hfv1⟩ := bcell hbv1; (try simp only [World.size_drew, World.cell?_drew, World.frozen?_drew] at hcv1 hfv1); have hzv1 := hbv1.size; (try simp at hzv1); have : w.heap.size < v1.heap.size := (by omega); (try dsimp only)
    refine hK.out _ _ (trivial) (fun hHeld2 => ?_)
    clear hK K hHeld; have hHeld := hHeld2; clear hHeld2
    (try simp only [List.getElem_toArray, List.getElem_cons_zero, List.getElem_cons_succ, Act.put, List.setIfInBounds_toArray, List.set_cons_zero, List.set_cons_succ])
    refine wpAnyH_ready (rs := [3]) (by kernel_rfl) (by simp) (AllReadyH.cons rfl (fun K hK => ?_) AllReadyH.nil)
    go_simp
    refine hK.out _ _ (trivial) (fun hHeld2 => ?_)
    clear hK K hHeld; have hHeld := hHeld2; clear hHeld2
    (try simp only [List.getElem_toArray, List.getElem_cons_zero, List.getElem_cons_succ, Act.put, List.setIfInBounds_toArray, List.set_cons_zero, List.set_cons_succ])
    refine wpAnyH_done (by kernel_rfl) ?_ _
    clear hHeld
    obtain ⟨r, hB0⟩ := RR1.out
    have r1 : Row v1 w.heap.size 26 (setA Q14) := (Row.onb (w := x0.drew) r hbu1 z0).onb hbv1 (by omega)
    have r2 : Row ((((v1.setCell ⟨w.heap.size, 0, none⟩ (.int .u64 ((wd A15 0 : Nat) : Int))).setCell ⟨w.heap.size, 1, none⟩ (.int .u64 ((wd A15 1 : Nat) : Int))).setCell ⟨w.heap.size, 2, none⟩ (.int .u64 ((wd A15 2 : Nat) : Int))).setCell ⟨w.heap.size, 3, none⟩ (.int .u64 ((wd A15 3 : Nat) : Int))) w.heap.size 26 (setA A15) := (((r1.set 0 _).set 1 _).set 2 _).set 3 _
    have hB2 : Below w.heap.size w ((((v1.setCell ⟨w.heap.size, 0, none⟩ (.int .u64 ((wd A15 0 : Nat) : Int))).setCell ⟨w.heap.size, 1, none⟩ (.int .u64 ((wd A15 1 : Nat) : Int))).setCell ⟨w.heap.size, 2, none⟩ (.int .u64 ((wd A15 2 : Nat) : Int))).setCell ⟨w.heap.size, 3, none⟩ (.int .u64 ((wd A15 3 : Nat) : Int))) := by repeat (first | (with_reducible exact Below.refl _ _) | (with_reducible refine Below.drew ?_) | (refine Below.setCell ?_ (by first | exact Nat.le_refl _ | (simp; done) | (simp; omega) | omega) _) | (refine Below.alloc ?_ (by first | exact Nat.le_refl _ | (simp; done) | (simp; omega) | omega) _) | (refine Below.trans ?_ (Below.mono (by assumption) (by first | exact Nat.le_refl _ | (simp; done) | (simp; omega) | omega))))
    clear r r1 hB0 hcu1 hfu1 hbu1 hzu1 hcv1 hfv1 hbv1 hzv1 k0 k1 k2 k3 f0 f1 f2 f3 z0 hB hzB RR1
    rename Row _ _ _ _ => r
    rename Below _ _ _ => hB
    generalize ((((v1.setCell ⟨w.heap.size, 0, none⟩ (.int .u64 ((wd A15 0 : Nat) : Int))).setCell ⟨w.heap.size, 1, none⟩ (.int .u64 ((wd A15 1 : Nat) : Int))).setCell ⟨w.heap.size, 2, none⟩ (.int .u64 ((wd A15 2 : Nat) : Int))).setCell ⟨w.heap.size, 3, none⟩ (.int .u64 ((wd A15 3 : Nat) : Int))) = x1 at *
    have k0 := r.cell 0
    have k1 := r.cell 1
    have k2 := r.cell 2
    have k3 := r.cell 3
    have f0 := r.froz 0
    have f1 := r.froz 1
    have f2 := r.froz 2
    have f3 := r.froz 3
    simp only [setA, List.getElem?_toArray, List.getElem?_cons_zero, List.getElem?_cons_succ] at k0 k1 k2 k3
    have z0 := r.lt
    have hzB := hB.size
    have RR2 := Lib.hid (And.intro r hB)
    clear r
    go_upto_region 16 with fail
    refine wp_region_held_drew (S := fun _ => True) (by kernel_rfl) trivial (fun hHeld => ?_)
    refine wpAnyH_ready (rs := [0, 1]) (by kernel_rfl) (by simp) (AllReadyH.cons rfl (fun K hK => ?_) (AllReadyH.cons rfl (fun K hK => ?_) AllReadyH.nil))
    · go_simp
      refine hK.out _ _ trivial (fun hHeld2 => ?_)
      clear hK K hHeld; have hHeld := hHeld2; clear hHeld2
      (try simp only [List.getElem_toArray, List.getElem_cons_zero, List.getElem_cons_succ, Act.put, List.setIfInBounds_toArray, List.set_cons_zero, List.set_cons_succ])
      refine wpAnyH_ready (rs := [1]) (by kernel_rfl) (by simp) (AllReadyH.cons rfl (fun K hK => ?_) AllReadyH.nil)
      go_simp
      refine (C16.out _).mono ?_; rintro eu2 u2 ⟨rfl, hbu2⟩; obtain ⟨hcu2, hfu2⟩ := bcell hbu2; (try simp only [World.size_drew, World.cell?_drew, World.frozen?_drew] at hcu2 hfu2); have hzu2 := hbu2.size; (try simp at hzu2); have : w.heap.size < u2.heap.size := (by omega); (try dsimp only)
      refine hK.out _ _ (trivial) (fun hHeld2 => ?_)
      clear hK K hHeld; have hHeld := hHeld2; clear hHeld2
      (try simp only [List.getElem_toArray, List.getElem_cons_zero, List.getElem_cons_succ, Act.put, List.setIfInBounds_toArray, List.set_cons_zero, List.set_cons_succ])
      refine wpAnyH_ready (rs := [2]) (by kernel_rfl) (by simp) (AllReadyH.cons rfl (fun K hK => ?_) AllReadyH.nil)
      go_simp
      refine (O16.out _).mono ?_; rintro ev2 v2 ⟨rfl, hbv2⟩; obtain ⟨hcv2, hfv2⟩ := bcell hbv2; (try simp only [World.size_drew, World.cell?_drew, World.frozen?_drew] at hcv2 hfv2); have hzv2 := hbv2.size; (try simp at hzv2); have : w.heap.size < v2.heap.size := (by omega); (try dsimp only)
      refine hK.out _ _ (trivial) (fun hHeld2 => ?_)
      clear hK K hHeld; have hHeld := hHeld2; clear hHeld2
      (try simp only [List.getElem_toArray, List.getElem_cons_zero, List.getElem_cons_succ, Act.put, List.setIfInBounds_toArray, List.set_cons_zero, List.set_cons_succ])
      refine wpAnyH_ready (rs := [3]) (by kernel_rfl) (by simp) (AllReadyH.cons rfl (fun K hK => ?_) AllReadyH.nil)
      go_simp
      refine hK.out _ _ (trivial) (fun hHeld2 => ?_)
      clear hK K hHeld; have hHeld := hHeld2; clear hHeld2
      (try simp only [List.getElem_toArray, List.getElem_cons_zero, List.getElem_cons_succ, Act.put, List.setIfInBounds_toArray, List.set_cons_zero, List.set_cons_succ])
      refine wpAnyH_done (by kernel_rfl) ?_ _
      clear hHeld
      obtain ⟨r, hB0⟩ := RR2.out
      have r1 : Row v2 w.heap.size 26 (setA A15) := (Row.onb (w := x1.drew) r hbu2 z0).onb hbv2 (by omega)
      have r2 : Row ((((v2.setCell ⟨w.heap.size, 0, none⟩ (.int .u64 ((wd A16 0 : Nat) : Int))).setCell ⟨w.heap.size, 1, none⟩ (.int .u64 ((wd A16 1 : Nat) : Int))).setCell ⟨w.heap.size, 2, none⟩ (.int .u64 ((wd A16 2 : Nat) : Int))).setCell ⟨w.heap.size, 3, none⟩ (.int .u64 ((wd A16 3 : Nat) : Int))) w.heap.size 26 (setA A16) := (((r1.set 0 _).set 1 _).set 2 _).set 3 _
      have hB2 : Below w.heap.size w ((((v2.setCell ⟨w.heap.size, 0, none⟩ (.int .u64 ((wd A16 0 : Nat) : Int))).setCell ⟨w.heap.size, 1, none⟩ (.int .u64 ((wd A16 1 : Nat) : Int))).setCell ⟨w.heap.size, 2, none⟩ (.int .u64 ((wd A16 2 : Nat) : Int))).setCell ⟨w.heap.size, 3, none⟩ (.int .u64 ((wd A16 3 : Nat) : Int))) := by repeat (first | (with_reducible exact Below.refl _ _) | (with_reducible refine Below.drew ?_) | (refine Below.setCell ?_ (by first | exact Nat.le_refl _ | (simp; done) | (simp; omega) | omega) _) | (refine Below.alloc ?_ (by first | exact Nat.le_refl _ | (simp; done) | (simp; omega) | omega) _) | (refine Below.trans ?_ (Below.mono (by assumption) (by first | exact Nat.le_refl _ | (simp; done) | (simp; omega) | omega))))
      clear r r1 hB0 hcu2 hfu2 hbu2 hzu2 hcv2 hfv2 hbv2 hzv2 k0 k1 k2 k3 f0 f1 f2 f3 z0 hB hzB RR2
      rename Row _ _ _ _ => r
      rename Below _ _ _ => hB
      generalize ((((v2.setCell ⟨w.heap.size, 0, none⟩ (.int .u64 ((wd A16 0 : Nat) : Int))).setCell ⟨w.heap.size, 1, none⟩ (.int .u64 ((wd A16 1 : Nat) : Int))).setCell ⟨w.heap.size, 2, none⟩ (.int .u64 ((wd A16 2 : Nat) : Int))).setCell ⟨w.heap.size, 3, none⟩ (.int .u64 ((wd A16 3 : Nat) : Int))) = x2 at *
      have k0 := r.cell 0
      have k1 := r.cell 1
      have k2 := r.cell 2
      have k3 := r.cell 3
      have f0 := r.froz 0
      have f1 := r.froz 1
      have f2 := r.froz 2
      have f3 := r.froz 3
      simp only [setA, List.getElem?_toArray, List.getElem?_cons_zero, List.getElem?_cons_succ] at k0 k1 k2 k3
      have z0 := r.lt
      clear r
      go_wp2
      refine bodyPost_ret (v := .tuple #[setV A16, .bool true]) (by simp [results, Try.results44, go_sem, *]) rfl ⟨rfl, ?_⟩
      repeat (first | (with_reducible exact Below.refl _ _) | (with_reducible refine Below.drew ?_) | (refine Below.setCell ?_ (by first | exact Nat.le_refl _ | (simp; done) | (simp; omega) | omega) _) | (refine Below.alloc ?_ (by first | exact Nat.le_refl _ | (simp; done) | (simp; omega) | omega) _) | (refine Below.trans ?_ (Below.mono (by assumption) (by first | exact Nat.le_refl _ | (simp; done) | (simp; omega) | omega))))
    · go_simp
      refine (C16.out _).mono ?_; rintro eu2 u2 ⟨rfl, hbu2⟩; obtain ⟨hcu2, hfu2⟩ := bcell hbu2; (try simp only [World.size_drew, World.cell?_drew, World.frozen?_drew] at hcu2 hfu2); have hzu2 := hbu2.size; (try simp at hzu2); have : w.heap.size < u2.heap.size := (by omega); (try dsimp only)
      refine hK.out _ _ trivial (fun hHeld2 => ?_)
      clear hK K hHeld; have hHeld := hHeld2; clear hHeld2
      (try simp only [List.getElem_toArray, List.getElem_cons_zero, List.getElem_cons_succ, Act.put, List.setIfInBounds_toArray, List.set_cons_zero, List.set_cons_succ])
      refine wpAnyH_ready (rs := [0]) (by kernel_rfl) (by simp) (AllReadyH.cons rfl (fun K hK => ?_) AllReadyH.nil)
      go_simp
      refine hK.out _ _ (trivial) (fun hHeld2 => ?_)
      clear hK K hHeld; have hHeld := hHeld2; clear hHeld2
      (try simp only [List.getElem_toArray, List.getElem_cons_zero, List.getElem_cons_succ, Act.put, List.setIfInBounds_toArray, List.set_cons_zero, List.set_cons_succ])
      refine wpAnyH_ready (rs := [2]) (by kernel_rfl) (by simp) (AllReadyH.cons rfl (fun K hK => ?_) AllReadyH.nil)
      go_simp
      refine (O16.out _).mono ?_; rintro ev2 v2 ⟨rfl, hbv2⟩; obtain ⟨hcv2, hfv2⟩ := bcell hbv2; (try simp only [World.size_drew, World.cell?_drew, World.frozen?_drew] at hcv2 hfv2); have hzv2 := hbv2.size; (try simp at hzv2); have : w.heap.size < v2.heap.size := (by omega); (try dsimp only)
      refine hK.out _ _ (trivial) (fun hHeld2 => ?_)
      clear hK K hHeld; have hHeld := hHeld2; clear hHeld2
      (try simp only [List.getElem_toArray, List.getElem_cons_zero, List.getElem_cons_succ, Act.put, List.setIfInBounds_toArray, List.set_cons_zero, List.set_cons_succ])
      refine wpAnyH_ready (rs := [3]) (by kernel_rfl) (by simp) (AllReadyH.cons rfl (fun K hK => ?_) AllReadyH.nil)
      go_simp
      refine hK.out _ _ (trivial) (fun hHeld2 => ?_)
      clear hK K hHeld; have hHeld := hHeld2; clear hHeld2
      (try simp only [List.getElem_toArray, List.getElem_cons_zero, List.getElem_cons_succ, Act.put, List.setIfInBounds_toArray, List.set_cons_zero, List.set_cons_succ])
      refine wpAnyH_done (by kernel_rfl) ?_ _
      clear hHeld
      obtain ⟨r, hB0⟩ := RR2.out
      have r1 : Row v2 w.heap.size 26 (setA A15) := (Row.onb (w := x1.drew) r hbu2 z0).onb hbv2 (by omega)
      have r2 : Row ((((v2.setCell ⟨w.heap.size, 0, none⟩ (.int .u64 ((wd A16 0 : Nat) : Int))).setCell ⟨w.heap.size, 1, none⟩ (.int .u64 ((wd A16 1 : Nat) : Int))).setCell ⟨w.heap.size, 2, none⟩ (.int .u64 ((wd A16 2 : Nat) : Int))).setCell ⟨w.heap.size, 3, none⟩ (.int .u64 ((wd A16 3 : Nat) : Int))) w.heap.size 26 (setA A16) := (((r1.set 0 _).set 1 _).set 2 _).set 3 _
      have hB2 : Below w.heap.size w ((((v2.setCell ⟨w.heap.size, 0, none⟩ (.int .u64 ((wd A16 0 : Nat) : Int))).setCell ⟨w.heap.size, 1, none⟩ (.int .u64 ((wd A16 1 : Nat) : Int))).setCell ⟨w.heap.size, 2, none⟩ (.int .u64 ((wd A16 2 : Nat) : Int))).setCell ⟨w.heap.size, 3, none⟩ (.int .u64 ((wd A16 3 : Nat) : Int))) := by repeat (first | (with_reducible exact Below.refl _ _) | (with_reducible refine Below.drew ?_) | (refine Below.setCell ?_ (by first | exact Nat.le_refl _ | (simp; done) | (simp; omega) | omega) _) | (refine Below.alloc ?_ (by first | exact Nat.le_refl _ | (simp; done) | (simp; omega) | omega) _) | (refine Below.trans ?_ (Below.mono (by assumption) (by first | exact Nat.le_refl _ | (simp; done) | (simp; omega) | omega))))
      clear r r1 hB0 hcu2 hfu2 hbu2 hzu2 hcv2 hfv2 hbv2 hzv2 k0 k1 k2 k3 f0 f1 f2 f3 z0 hB hzB RR2
      rename Row _ _ _ _ => r
      rename Below _ _ _ => hB
      generalize ((((v2.setCell ⟨w.heap.size, 0, none⟩ (.int .u64 ((wd A16 0 : Nat) : Int))).setCell ⟨w.heap.size, 1, none⟩ (.int .u64 ((wd A16 1 : Nat) : Int))).setCell ⟨w.heap.size, 2, none⟩ (.int .u64 ((wd A16 2 : Nat) : Int))).setCell ⟨w.heap.size, 3, none⟩ (.int .u64 ((wd A16 3 : Nat) : Int))) = x2 at *
      have k0 := r.cell 0
      have k1 := r.cell 1
      have k2 := r.cell 2
      have k3 := r.cell 3
      have f0 := r.froz 0
      have f1 := r.froz 1
      have f2 := r.froz 2
      have f3 := r.froz 3
      simp only [setA, List.getElem?_toArray, List.getElem?_cons_zero, List.getElem?_cons_succ] at k0 k1 k2 k3
      have z0 := r.lt
      clear r
      go_wp2
      refine bodyPost_ret (v := .tuple #[setV A16, .bool true]) (by simp [results, Try.results44, go_sem, *]) rfl ⟨rfl, ?_⟩
      repeat (first | (with_reducible exact Below.refl _ _) | (with_reducible refine Below.drew ?_) | (refine Below.setCell ?_ (by first | exact Nat.le_refl _ | (simp; done) | (simp; omega) | omega) _) | (refine Below.alloc ?_ (by first | exact Nat.le_refl _ | (simp; done) | (simp; omega) | omega) _) | (refine Below.trans ?_ (Below.mono (by assumption) (by first | exact Nat.le_refl _ | (simp; done) | (simp; omega) | omega))))
  · go_simp
    refine (C15.out _).mono ?_; rintro eu1 u1 ⟨rfl, hbu1⟩; obtain ⟨hcu1, hfu1⟩ := bcell hbu1; (try simp only [World.size_drew, World.cell?_drew, World.frozen?_drew] at hcu1 hfu1); have hzu1 := hbu1.size; (try simp at hzu1); have : w.heap.size < u1.heap.size := (by omega); (try dsimp only)
    refine hK.out _ _ trivial (fun hHeld2 => ?_)
    clear hK K hHeld; have hHeld := hHeld2; clear hHeld2
    (try simp only [List.getElem_toArray, List.getElem_cons_zero, List.getElem_cons_succ, Act.put, List.setIfInBounds_toArray, List.set_cons_zero, List.set_cons_succ])
    refine wpAnyH_ready (rs := [0]) (by kernel_rfl) (by simp) (AllReadyH.cons rfl (fun K hK => ?_) AllReadyH.nil)
    go_simp
    refine hK.out _ _ (trivial) (fun hHeld2 => ?_)
    clear hK K hHeld; have hHeld := hHeld2; clear hHeld2
    (try simp only [List.getElem_toArray, List.getElem_cons_zero, List.getElem_cons_succ, Act.put, List.setIfInBounds_toArray, List.set_cons_zero, List.set_cons_succ])
    refine wpAnyH_ready (rs := [2]) (by kernel_rfl) (by simp) (AllReadyH.cons rfl (fun K hK => ?_) AllReadyH.nil)
    go_simp
    refine (O15.out _).mono ?_; rintro ev1 v1 ⟨rfl, hbv1⟩; obtain ⟨hcv1, hfv1⟩ := bcell hbv1; (try simp only [World.size_drew, World.cell?_drew, World.frozen?_drew] at hcv1 hfv1); have hzv1 := hbv1.size; (try simp at hzv1); have : w.heap.size < v1.heap.size := (by omega); (try dsimp only)
    refine hK.out _ _ (trivial) (fun hHeld2 => ?_)
    clear hK K hHeld; have hHeld := hHeld2; clear hHeld2
    (try simp only [List.getElem_toArray, List.getElem_cons_zero, List.getElem_cons_succ, Act.put, List.setIfInBounds_toArray, List.set_cons_zero, List.set_cons_succ])
    refine wpAnyH_ready (rs := [3]) (by kernel_rfl) (by simp) (AllReadyH.cons rfl (fun K hK => ?_) AllReadyH.nil)
    go_simp
    refine hK.out _ _ (trivial) (fun hHeld2 => ?_)
    clear hK K hHeld; have hHeld := hHeld2; clear hHeld2
    (try simp only [List.getElem_toArray, List.getElem_cons_zero, List.getElem_cons_succ, Act.put, List.setIfInBounds_toArray, List.set_cons_zero, List.set_cons_succ])
    refine wpAnyH_done (by kernel_rfl) ?_ _
    clear hHeld
    obtain ⟨r, hB0⟩ := RR1.out
    have r1 : Row v1 w.heap.size 26 (setA Q14) := (Row.onb (w := x0.drew) r hbu1 z0).onb hbv1 (by omega)
    have r2 : Row ((((v1.setCell ⟨w.heap.size, 0, none⟩ (.int .u64 ((wd A15 0 : Nat) : Int))).setCell ⟨w.heap.size, 1, none⟩ (.int .u64 ((wd A15 1 : Nat) : Int))).setCell ⟨w.heap.size, 2, none⟩ (.int .u64 ((wd A15 2 : Nat) : Int))).setCell ⟨w.heap.size, 3, none⟩ (.int .u64 ((wd A15 3 : Nat) : Int))) w.heap.size 26 (setA A15) := (((r1.set 0 _).set 1 _).set 2 _).set 3 _
    have hB2 : Below w.heap.size w ((((v1.setCell ⟨w.heap.size, 0, none⟩ (.int .u64 ((wd A15 0 : Nat) : Int))).setCell ⟨w.heap.size, 1, none⟩ (.int .u64 ((wd A15 1 : Nat) : Int))).setCell ⟨w.heap.size, 2, none⟩ (.int .u64 ((wd A15 2 : Nat) : Int))).setCell ⟨w.heap.size, 3, none⟩ (.int .u64 ((wd A15 3 : Nat) : Int))) := by repeat (first | (with_reducible exact Below.refl _ _) | (with_reducible refine Below.drew ?_) | (refine Below.setCell ?_ (by first | exact Nat.le_refl _ | (simp; done) | (simp; omega) | omega) _) | (refine Below.alloc ?_ (by first | exact Nat.le_refl _ | (simp; done) | (simp; omega) | omega) _) | (refine Below.trans ?_ (Below.mono (by assumption) (by first | exact Nat.le_refl _ | (simp; done) | (simp; omega) | omega))))
    clear r r1 hB0 hcu1 hfu1 hbu1 hzu1 hcv1 hfv1 hbv1 hzv1 k0 k1 k2 k3 f0 f1 f2 f3 z0 hB hzB RR1
    rename Row _ _ _ _ => r
    rename Below _ _ _ => hB
    generalize ((((v1.setCell ⟨w.heap.size, 0, none⟩ (.int .u64 ((wd A15 0 : Nat) : Int))).setCell ⟨w.heap.size, 1, none⟩ (.int .u64 ((wd A15 1 : Nat) : Int))).setCell ⟨w.heap.size, 2, none⟩ (.int .u64 ((wd A15 2 : Nat) : Int))).setCell ⟨w.heap.size, 3, none⟩ (.int .u64 ((wd A15 3 : Nat) : Int))) = x1 at *
    have k0 := r.cell 0
    have k1 := r.cell 1
    have k2 := r.cell 2
    have k3 := r.cell 3
    have f0 := r.froz 0
    have f1 := r.froz 1
    have f2 := r.froz 2
    have f3 := r.froz 3
    simp only [setA, List.getElem?_toArray, List.getElem?_cons_zero, List.getElem?_cons_succ] at k0 k1 k2 k3
    have z0 := r.lt
    have hzB := hB.size
    have RR2 := Lib.hid (And.intro r hB)
    clear r
    go_upto_region 16 with fail
    refine wp_region_held_drew (S := fun _ => True) (by kernel_rfl) trivial (fun hHeld => ?_)
    refine wpAnyH_ready (rs := [0, 1]) (by kernel_rfl) (by simp) (AllReadyH.cons rfl (fun K hK => ?_) (AllReadyH.cons rfl (fun K hK => ?_) AllReadyH.nil))
    · go_simp
      refine hK.out _ _ trivial (fun hHeld2 => ?_)
      clear hK K hHeld; have hHeld := hHeld2; clear hHeld2
      (try simp only [List.getElem_toArray, List.getElem_cons_zero, List.getElem_cons_succ, Act.put, List.setIfInBounds_toArray, List.set_cons_zero, List.set_cons_succ])
      refine wpAnyH_ready (rs := [1]) (by kernel_rfl) (by simp) (AllReadyH.cons rfl (fun K hK => ?_) AllReadyH.nil)
      go_simp
      refine (C16.out _).mono ?_; rintro eu2 u2 ⟨rfl, hbu2⟩; obtain ⟨hcu2, hfu2⟩ := bcell hbu2; (try simp only [World.size_drew, World.cell?_drew, World.frozen?_drew] at hcu2 hfu2); have hzu2 := hbu2.size; (try simp at hzu2); have : w.heap.size < u2.heap.size := (by omega); (try dsimp only)
      refine hK.out _ _ (trivial) (fun hHeld2 => ?_)
      clear hK K hHeld; have hHeld := hHeld2; clear hHeld2
      (try simp only [List.getElem_toArray, List.getElem_cons_zero, List.getElem_cons_succ, Act.put, List.setIfInBounds_toArray, List.set_cons_zero, List.set_cons_succ])
      refine wpAnyH_ready (rs := [2]) (by kernel_rfl) (by simp) (AllReadyH.cons rfl (fun K hK => ?_) AllReadyH.nil)
      go_simp
      refine (O16.out _).mono ?_; rintro ev2 v2 ⟨rfl, hbv2⟩; obtain ⟨hcv2, hfv2⟩ := bcell hbv2; (try simp only [World.size_drew, World.cell?_drew, World.frozen?_drew] at hcv2 hfv2); have hzv2 := hbv2.size; (try simp at hzv2); have : w.heap.size < v2.heap.size := (by omega); (try dsimp only)
      refine hK.out _ _ (trivial) (fun hHeld2 => ?_)
      clear hK K hHeld; have hHeld := hHeld2; clear hHeld2
      (try simp only [List.getElem_toArray, List.getElem_cons_zero, List.getElem_cons_succ, Act.put, List.setIfInBounds_toArray, List.set_cons_zero, List.set_cons_succ])
      refine wpAnyH_ready (rs := [3]) (by kernel_rfl) (by simp) (AllReadyH.cons rfl (fun K hK => ?_) AllReadyH.nil)
      go_simp
      refine hK.out _ _ (trivial) (fun hHeld2 => ?_)
      clear hK K hHeld; have hHeld := hHeld2; clear hHeld2
      (try simp only [List.getElem_toArray, List.getElem_cons_zero, List.getElem_cons_succ, Act.put, List.setIfInBounds_toArray, List.set_cons_zero, List.set_cons_succ])
      refine wpAnyH_done (by kernel_rfl) ?_ _
      clear hHeld
      obtain ⟨r, hB0⟩ := RR2.out
      have r1 : Row v2 w.heap.size 26 (setA A15) := (Row.onb (w := x1.drew) r hbu2 z0).onb hbv2 (by omega)
      have r2 : Row ((((v2.setCell ⟨w.heap.size, 0, none⟩ (.int .u64 ((wd A16 0 : Nat) : Int))).setCell ⟨w.heap.size, 1, none⟩ (.int .u64 ((wd A16 1 : Nat) : Int))).setCell ⟨w.heap.size, 2, none⟩ (.int .u64 ((wd A16 2 : Nat) : Int))).setCell ⟨w.heap.size, 3, none⟩ (.int .u64 ((wd A16 3 : Nat) : Int))) w.heap.size 26 (setA A16) := (((r1.set 0 _).set 1 _).set 2 _).set 3 _
      have hB2 : Below w.heap.size w ((((v2.setCell ⟨w.heap.size, 0, none⟩ (.int .u64 ((wd A16 0 : Nat) : Int))).setCell ⟨w.heap.size, 1, none⟩ (.int .u64 ((wd A16 1 : Nat) : Int))).setCell ⟨w.heap.size, 2, none⟩ (.int .u64 ((wd A16 2 : Nat) : Int))).setCell ⟨w.heap.size, 3, none⟩ (.int .u64 ((wd A16 3 : Nat) : Int))) := by repeat (first | (with_reducible exact Below.refl _ _) | (with_reducible refine Below.drew ?_) | (refine Below.setCell ?_ (by first | exact Nat.le_refl _ | (simp; done) | (simp; omega) | omega) _) | (refine Below.alloc ?_ (by first | exact Nat.le_refl _ | (simp; done) | (simp; omega) | omega) _) | (refine Below.trans ?_ (Below.mono (by assumption) (by first | exact Nat.le_refl _ | (simp; done) | (simp; omega) | omega))))
      clear r r1 hB0 hcu2 hfu2 hbu2 hzu2 hcv2 hfv2 hbv2 hzv2 k0 k1 k2 k3 f0 f1 f2 f3 z0 hB hzB RR2
      rename Row _ _ _ _ => r
      rename Below _ _ _ => hB
      generalize ((((v2.setCell ⟨w.heap.size, 0, none⟩ (.int .u64 ((wd A16 0 : Nat) : Int))).setCell ⟨w.heap.size, 1, none⟩ (.int .u64 ((wd A16 1 : Nat) : Int))).setCell ⟨w.heap.size, 2, none⟩ (.int .u64 ((wd A16 2 : Nat) : Int))).setCell ⟨w.heap.size, 3, none⟩ (.int .u64 ((wd A16 3 : Nat) : Int))) = x2 at *
      have k0 := r.cell 0
      have k1 := r.cell 1
      have k2 := r.cell 2
      have k3 := r.cell 3
      have f0 := r.froz 0
      have f1 := r.froz 1
      have f2 := r.froz 2
      have f3 := r.froz 3
      simp only [setA, List.getElem?_toArray, List.getElem?_cons_zero, List.getElem?_cons_succ] at k0 k1 k2 k3
      have z0 := r.lt
      clear r
      go_wp2
      refine bodyPost_ret (v := .tuple #[setV A16, .bool true]) (by simp [results, Try.results44, go_sem, *]) rfl ⟨rfl, ?_⟩
      repeat (first | (with_reducible exact Below.refl _ _) | (with_reducible refine Below.drew ?_) | (refine Below.setCell ?_ (by first | exact Nat.le_refl _ | (simp; done) | (simp; omega) | omega) _) | (refine Below.alloc ?_ (by first | exact Nat.le_refl _ | (simp; done) | (simp; omega) | omega) _) | (refine Below.trans ?_ (Below.mono (by assumption) (by first | exact Nat.le_refl _ | (simp; done) | (simp; omega) | omega))))
    · go_simp
      refine (C16.out _).mono ?_; rintro eu2 u2 ⟨rfl, hbu2⟩; obtain ⟨hcu2, hfu2⟩ := bcell hbu2; (try simp only [World.size_drew, World.cell?_drew, World.frozen?_drew] at hcu2 hfu2); have hzu2 := hbu2.size; (try simp at hzu2); have : w.heap.size < u2.heap.size := (by omega); (try dsimp only)
      refine hK.out _ _ trivial (fun hHeld2 => ?_)
      clear hK K hHeld; have hHeld := hHeld2; clear hHeld2
      (try simp only [List.getElem_toArray, List.getElem_cons_zero, List.getElem_cons_succ, Act.put, List.setIfInBounds_toArray, List.set_cons_zero, List.set_cons_succ])
      refine wpAnyH_ready (rs := [0]) (by kernel_rfl) (by simp) (AllReadyH.cons rfl (fun K hK => ?_) AllReadyH.nil)
      go_simp
      refine hK.out _ _ (trivial) (fun hHeld2 => ?_)
      clear hK K hHeld; have hHeld := hHeld2; clear hHeld2
      (try simp only [List.getElem_toArray, List.getElem_cons_zero, List.getElem_cons_succ, Act.put, List.setIfInBounds_toArray, List.set_cons_zero, List.set_cons_succ])
      refine wpAnyH_ready (rs := [2]) (by kernel_rfl) (by simp) (AllReadyH.cons rfl (fun K hK => ?_) AllReadyH.nil)
      go_simp
      refine (O16.out _).mono ?_; rintro ev2 v2 ⟨rfl, hbv2⟩; obtain ⟨hcv2, hfv2⟩ := bcell hbv2; (try simp only [World.size_drew, World.cell?_drew, World.frozen?_drew] at hcv2 hfv2); have hzv2 := hbv2.size; (try simp at hzv2); have : w.heap.size < v2.heap.size := (by omega); (try dsimp only)
      refine hK.out _ _ (trivial) (fun hHeld2 => ?_)
      clear hK K hHeld; have hHeld := hHeld2; clear hHeld2
      (try simp only [List.getElem_toArray, List.getElem_cons_zero, List.getElem_cons_succ, Act.put, List.setIfInBounds_toArray, List.set_cons_zero, List.set_cons_succ])
      refine wpAnyH_ready (rs := [3]) (by kernel_rfl) (by simp) (AllReadyH.cons rfl (fun K hK => ?_) AllReadyH.nil)
      go_simp
      refine hK.out _ _ (trivial) (fun hHeld2 => ?_)
      clear hK K hHeld; have hHeld := hHeld2; clear hHeld2
      (try simp only [List.getElem_toArray, List.getElem_cons_zero, List.getElem_cons_succ, Act.put, List.setIfInBounds_toArray, List.set_cons_zero, List.set_cons_succ])
      refine wpAnyH_done (by kernel_rfl) ?_ _
      clear hHeld
      obtain ⟨r, hB0⟩ := RR2.out
      have r1 : Row v2 w.heap.size 26 (setA A15) := (Row.onb (w := x1.drew) r hbu2 z0).onb hbv2 (by omega)
      have r2 : Row ((((v2.setCell ⟨w.heap.size, 0, none⟩ (.int .u64 ((wd A16 0 : Nat) : Int))).setCell ⟨w.heap.size, 1, none⟩ (.int .u64 ((wd A16 1 : Nat) : Int))).setCell ⟨w.heap.size, 2, none⟩ (.int .u64 ((wd A16 2 : Nat) : Int))).setCell ⟨w.heap.size, 3, none⟩ (.int .u64 ((wd A16 3 : Nat) : Int))) w.heap.size 26 (setA A16) := (((r1.set 0 _).set 1 _).set 2 _).set 3 _
      have hB2 : Below w.heap.size w ((((v2.setCell ⟨w.heap.size, 0, none⟩ (.int .u64 ((wd A16 0 : Nat) : Int))).setCell ⟨w.heap.size, 1, none⟩ (.int .u64 ((wd A16 1 : Nat) : Int))).setCell ⟨w.heap.size, 2, none⟩ (.int .u64 ((wd A16 2 : Nat) : Int))).setCell ⟨w.heap.size, 3, none⟩ (.int .u64 ((wd A16 3 : Nat) : Int))) := by repeat (first | (with_reducible exact Below.refl _ _) | (with_reducible refine Below.drew ?_) | (refine Below.setCell ?_ (by first | exact Nat.le_refl _ | (simp; done) | (simp; omega) | omega) _) | (refine Below.alloc ?_ (by first | exact Nat.le_refl _ | (simp; done) | (simp; omega) | omega) _) | (refine Below.trans ?_ (Below.mono (by assumption) (by first | exact Nat.le_refl _ | (simp; done) | (simp; omega) | omega))))
      clear r r1 hB0 hcu2 hfu2 hbu2 hzu2 hcv2 hfv2 hbv2 hzv2 k0 k1 k2 k3 f0 f1 f2 f3 z0 hB hzB RR2
      rename Row _ _ _ _ => r
      rename Below _ _ _ => hB
      generalize ((((v2.setCell ⟨w.heap.size, 0, none⟩ (.int .u64 ((wd A16 0 : Nat) : Int))).setCell ⟨w.heap.size, 1, none⟩ (.int .u64 ((wd A16 1 : Nat) : Int))).setCell ⟨w.heap.size, 2, none⟩ (.int .u64 ((wd A16 2 : Nat) : Int))).setCell ⟨w.heap.size, 3, none⟩ (.int .u64 ((wd A16 3 : Nat) : Int))) = x2 at *
      have k0 := r.cell 0
      have k1 := r.cell 1
      have k2 := r.cell 2
      have k3 := r.cell 3
      have f0 := r.froz 0
      have f1 := r.froz 1
      have f2 := r.froz 2
      have f3 := r.froz 3
      simp only [setA, List.getElem?_toArray, List.getElem?_cons_zero, List.getElem?_cons_succ] at k0 k1 k2 k3
      have z0 := r.lt
      clear r
      go_wp2
      refine bodyPost_ret (v := .tuple #[setV A16, .bool true]) (by simp [results, Try.results44, go_sem, *]) rfl ⟨rfl, ?_⟩
      repeat (first | (with_reducible exact Below.refl _ _) | (with_reducible refine Below.drew ?_) | (refine Below.setCell ?_ (by first | exact Nat.le_refl _ | (simp; done) | (simp; omega) | omega) _) | (refine Below.alloc ?_ (by first | exact Nat.le_refl _ | (simp; done) | (simp; omega) | omega) _) | (refine Below.trans ?_ (Below.mono (by assumption) (by first | exact Nat.le_refl _ | (simp; done) | (simp; omega) | omega))))

end Go.Proofs.Ytfmekmbdienbjaa
