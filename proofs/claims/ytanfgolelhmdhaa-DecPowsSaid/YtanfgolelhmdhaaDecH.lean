/- The contract of dec.Add on right numbers, and on others. -/
import Derived.Test.YtanfgolelhmdhaaDecB
import Derived.Deep.RegionHeld3
namespace Go.Proofs.Ytanfgolelhmdhaa
set_option linter.unusedSimpArgs false
set_option linter.unusedVariables false
set_option linter.unnecessarySimpa false
open Go.RowKit

/-- Two numbers are exchanged in their blocks. -/
theorem swap_facts {w : World} {b : Nat} {x0 x1 x2 x3 x4 x5 : Value} (y0 y1 y2 z0 z1 z2 : Value) (h0 : w.cell? ⟨b, 0, none⟩ = some x0) (h1 : w.cell? ⟨b, 1, none⟩ = some x1) (h2 : w.cell? ⟨b, 2, none⟩ = some x2)
    (h3 : w.cell? ⟨b + 1, 0, none⟩ = some x3) (h4 : w.cell? ⟨b + 1, 1, none⟩ = some x4) (h5 : w.cell? ⟨b + 1, 2, none⟩ = some x5) (W : World)
    (hW : W = (((((w.setCell ⟨b, 0, none⟩ y0).setCell ⟨b, 1, none⟩ y1).setCell ⟨b, 2, none⟩ y2).setCell ⟨b + 1, 0, none⟩ z0).setCell ⟨b + 1, 1, none⟩ z1).setCell ⟨b + 1, 2, none⟩ z2) :
    W.cell? ⟨b, 0, none⟩ = some y0 ∧ W.cell? ⟨b, 1, none⟩ = some y1 ∧ W.cell? ⟨b, 2, none⟩ = some y2 ∧ W.cell? ⟨b + 1, 0, none⟩ = some z0 ∧ W.cell? ⟨b + 1, 1, none⟩ = some z1 ∧ W.cell? ⟨b + 1, 2, none⟩ = some z2 ∧
    (∀ a, W.frozen? a = w.frozen? a) ∧ W.heap.size = w.heap.size ∧ (∀ b' o, b' ≠ b → b' ≠ b + 1 → W.cell? ⟨b', o, none⟩ = w.cell? ⟨b', o, none⟩) ∧ ∀ B, B ≤ b → Below B w W := by
  subst hW
  have far : ∀ (b b' o o' : Nat) (v : Value) (W : World), b ≠ b' → (W.setCell ⟨b, o, none⟩ v).cell? ⟨b', o', none⟩ = W.cell? ⟨b', o', none⟩ := fun b b' o o' v W h => World.cell?_setCell_far W _ _ v h
  have t := three_set y0 y1 y2 h0 h1 h2
  have f3 : ∀ (W0 : World) (o : Nat), (((W0.setCell ⟨b + 1, 0, none⟩ z0).setCell ⟨b + 1, 1, none⟩ z1).setCell ⟨b + 1, 2, none⟩ z2).cell? ⟨b, o, none⟩ = W0.cell? ⟨b, o, none⟩ :=
    fun W0 o => (far _ _ _ _ _ _ (by omega)).trans ((far _ _ _ _ _ _ (by omega)).trans (far _ _ _ _ _ _ (by omega)))
  have g3 : ∀ (o : Nat), (((w.setCell ⟨b, 0, none⟩ y0).setCell ⟨b, 1, none⟩ y1).setCell ⟨b, 2, none⟩ y2).cell? ⟨b + 1, o, none⟩ = w.cell? ⟨b + 1, o, none⟩ :=
    fun o => (far _ _ _ _ _ _ (by omega)).trans ((far _ _ _ _ _ _ (by omega)).trans (far _ _ _ _ _ _ (by omega)))
  have t2 := three_set z0 z1 z2 ((g3 0).trans h3) ((g3 1).trans h4) ((g3 2).trans h5)
  refine ⟨(f3 _ 0).trans t.1, (f3 _ 1).trans t.2.1, (f3 _ 2).trans t.2.2, t2.1, t2.2.1, t2.2.2, fun a => by simp only [World.frozen?_setCell], by simp only [World.size_setCell], fun b' o hb hb1 => ?_, fun B hB => ?_⟩
  · rw [far _ _ _ _ _ _ (Ne.symm hb1), far _ _ _ _ _ _ (Ne.symm hb1), far _ _ _ _ _ _ (Ne.symm hb1), far _ _ _ _ _ _ (Ne.symm hb), far _ _ _ _ _ _ (Ne.symm hb), far _ _ _ _ _ _ (Ne.symm hb)]
  · exact ((((((Below.refl _ _).setCell hB _).setCell hB _).setCell hB _).setCell (Nat.le_succ_of_le hB) _).setCell (Nat.le_succ_of_le hB) _).setCell (Nat.le_succ_of_le hB) _

theorem good_z' {x : Int} (hx : x.natAbs < topN) : ∀ w, Calls Try.prog 15 #[ZV x] w fun e w' => e = .returned (.bool true) ∧ Below w.heap.size w w' := by
  intro w
  have h := good_m (negZ x) x.natAbs w
  rw [goodB_z, decide_eq_true hx] at h
  exact h

set_option maxHeartbeats 1000000 in
theorem add_same (x y : Int) (hx : x.natAbs < topN) (hy : y.natAbs < topN) (hs : negZ x = negZ y) (w : World) :
    Calls Try.prog 13 #[ZV x, ZV y] w fun e w' => e = .returned (RV (fitR (x + y))) ∧ Below w.heap.size w w' := by
  have ht : (negZ x == negZ y) = true := by simpa using hs
  have C1 := Lib.hid (good_z' hx)
  have C2 := Lib.hid (good_z' hy)
  have C3 : Hid (∀ w, Calls Try.prog 41 #[ZV x, ZV y] w fun e w' => e = .returned (MV false (x.natAbs + y.natAbs)) ∧ Below w.heap.size w w') := fun w => plus_m _ _ _ _ (by rw [topN_eq] at hx hy; omega) w
  have C4 : Hid (∀ w, Calls Try.prog 40 #[MV false (x.natAbs + y.natAbs)] w fun e w' => e = .returned (QV (x.natAbs + y.natAbs)) ∧ Below w.heap.size w w') := fun w => widen_m _ _ (by rw [topN_eq] at hx hy; omega) w
  have C5 : Hid (∀ w, Calls Try.prog 39 #[QV (x.natAbs + y.natAbs), .bool (negZ x)] w fun e w' => e = .returned (RV (fitR (x + y))) ∧ Below w.heap.size w w') := by
    intro w
    refine (fit_m (x.natAbs + y.natAbs) (negZ x) (by rw [topN_eq] at hx hy; omega) w).mono ?_
    rintro e w' ⟨rfl, hb⟩
    exact ⟨ret_v (ret_fit (by unfold negZ at hs; rw [decide_eq_decide] at hs; omega) (by intro h0; unfold negZ at hs ⊢; rw [decide_eq_decide] at hs ⊢; omega)), hb⟩
  clear hx hy hs
  go_enter Try.func13, Try.ntmps13
  go_wp2_with fail; refine (C1.out _).mono ?_; rintro ew1 w1 ⟨rfl, hbw1⟩; obtain ⟨hcw1, hfw1⟩ := bcell hbw1; (try simp only [World.size_drew, World.cell?_drew, World.frozen?_drew] at hcw1 hfw1); have hzw1 := hbw1.size; (try simp at hzw1); have : w.heap.size < w1.heap.size := (by omega); have : w.heap.size + 1 < w1.heap.size := (by omega); have : w.heap.size + 1 + 1 < w1.heap.size := (by omega); (try dsimp only)
  go_wp2_with fail; refine (C2.out _).mono ?_; rintro ew2 w2 ⟨rfl, hbw2⟩; obtain ⟨hcw2, hfw2⟩ := bcell hbw2; (try simp only [World.size_drew, World.cell?_drew, World.frozen?_drew] at hcw2 hfw2); have hzw2 := hbw2.size; (try simp at hzw2); have : w.heap.size < w2.heap.size := (by omega); have : w.heap.size + 1 < w2.heap.size := (by omega); have : w.heap.size + 1 + 1 < w2.heap.size := (by omega); (try dsimp only)
  go_wp2_with fail
  refine wp_region_held_drew (S := fun w' => w'.cell? ⟨w.heap.size, 0, none⟩ = some (.bool (negZ x)) ∧ w'.cell? ⟨w.heap.size, 1, none⟩ = some (.int .u64 (hiN x.natAbs : Int)) ∧ w'.cell? ⟨w.heap.size, 2, none⟩ = some (.int .u64 (loN x.natAbs : Int)) ∧
      w'.cell? ⟨w.heap.size + 1, 0, none⟩ = some (.bool (negZ y)) ∧ w'.cell? ⟨w.heap.size + 1, 1, none⟩ = some (.int .u64 (hiN y.natAbs : Int)) ∧ w'.cell? ⟨w.heap.size + 1, 2, none⟩ = some (.int .u64 (loN y.natAbs : Int)))
    (by kernel_rfl) (by refine ⟨?_, ?_, ?_, ?_, ?_, ?_⟩ <;> go_simp) (fun hHeld => ?_)
  refine wpAnyH_take (i := 0) (v := ?_) rfl (by kernel_rfl) (by kernel_rfl) (by kernel_rfl) (fun _ _ _ h => h) (Or.inl ⟨by rfl, ?_⟩) hHeld ?_
  rotate_left
  · (intro w0 hSw; (try dsimp only at hSw); (first | (go_simp; done) | (go_simp; with_reducible rfl)))
  (try simp only [List.getElem_toArray, List.getElem_cons_zero, List.getElem_cons_succ, Act.put, List.setIfInBounds_toArray, List.set_cons_zero, List.set_cons_succ])
  refine wpAnyH_take (i := 1) (v := ?_) rfl (by kernel_rfl) (by kernel_rfl) (by kernel_rfl) (fun _ _ _ h => h) (Or.inl ⟨by rfl, ?_⟩) hHeld ?_
  rotate_left
  · (intro w0 hSw; (try dsimp only at hSw); (first | (go_simp; done) | (go_simp; with_reducible rfl)))
  (try simp only [List.getElem_toArray, List.getElem_cons_zero, List.getElem_cons_succ, Act.put, List.setIfInBounds_toArray, List.set_cons_zero, List.set_cons_succ])
  refine wpAnyH_take (i := 4) (v := ?_) rfl (by kernel_rfl) (by kernel_rfl) (by kernel_rfl) (fun _ _ _ h => h) (Or.inl ⟨by rfl, ?_⟩) hHeld ?_
  rotate_left
  · (intro w0 hSw; (try dsimp only at hSw); (first | (go_simp; done) | (go_simp; with_reducible rfl)))
  (try simp only [List.getElem_toArray, List.getElem_cons_zero, List.getElem_cons_succ, Act.put, List.setIfInBounds_toArray, List.set_cons_zero, List.set_cons_succ])
  refine wpAnyH_take (i := 5) (v := ?_) rfl (by kernel_rfl) (by kernel_rfl) (by kernel_rfl) (fun _ _ _ h => h) (Or.inl ⟨by rfl, ?_⟩) hHeld ?_
  rotate_left
  · (intro w0 hSw; (try dsimp only at hSw); (first | (go_simp; done) | (go_simp; with_reducible rfl)))
  (try simp only [List.getElem_toArray, List.getElem_cons_zero, List.getElem_cons_succ, Act.put, List.setIfInBounds_toArray, List.set_cons_zero, List.set_cons_succ])
  refine wpAnyH_ready (rs := [2]) (by kernel_rfl) (by simp) (AllReadyH.cons rfl (fun K hK => ?_) AllReadyH.nil)
  go_simp
  refine (C3.out _).mono ?_; rintro ew3 w3 ⟨rfl, hbw3⟩; obtain ⟨hcw3, hfw3⟩ := bcell hbw3; (try simp only [World.size_drew, World.cell?_drew, World.frozen?_drew] at hcw3 hfw3); have hzw3 := hbw3.size; (try simp at hzw3); have : w.heap.size < w3.heap.size := (by omega); have : w.heap.size + 1 < w3.heap.size := (by omega); have : w.heap.size + 1 + 1 < w3.heap.size := (by omega); (try dsimp only)
  refine hK.out _ _ (by refine ⟨?_, ?_, ?_, ?_, ?_, ?_⟩ <;> go_simp) (fun hHeld2 => ?_)
  clear hK K hHeld; have hHeld := hHeld2; clear hHeld2
  (try simp only [List.getElem_toArray, List.getElem_cons_zero, List.getElem_cons_succ, Act.put, List.setIfInBounds_toArray, List.set_cons_zero, List.set_cons_succ])
  refine wpAnyH_ready (rs := [3]) (by kernel_rfl) (by simp) (AllReadyH.cons rfl (fun K hK => ?_) AllReadyH.nil)
  go_simp
  refine (C4.out _).mono ?_; rintro ew4 w4 ⟨rfl, hbw4⟩; obtain ⟨hcw4, hfw4⟩ := bcell hbw4; (try simp only [World.size_drew, World.cell?_drew, World.frozen?_drew] at hcw4 hfw4); have hzw4 := hbw4.size; (try simp at hzw4); have : w.heap.size < w4.heap.size := (by omega); have : w.heap.size + 1 < w4.heap.size := (by omega); have : w.heap.size + 1 + 1 < w4.heap.size := (by omega); (try dsimp only)
  refine hK.out _ _ (by refine ⟨?_, ?_, ?_, ?_, ?_, ?_⟩ <;> go_simp) (fun hHeld2 => ?_)
  clear hK K hHeld; have hHeld := hHeld2; clear hHeld2
  (try simp only [List.getElem_toArray, List.getElem_cons_zero, List.getElem_cons_succ, Act.put, List.setIfInBounds_toArray, List.set_cons_zero, List.set_cons_succ])
  refine wpAnyH_ready (rs := [6]) (by kernel_rfl) (by simp) (AllReadyH.cons rfl (fun K hK => ?_) AllReadyH.nil)
  go_simp
  refine (C5.out _).mono ?_; rintro ew5 w5 ⟨rfl, hbw5⟩; obtain ⟨hcw5, hfw5⟩ := bcell hbw5; (try simp only [World.size_drew, World.cell?_drew, World.frozen?_drew] at hcw5 hfw5); have hzw5 := hbw5.size; (try simp at hzw5); have : w.heap.size < w5.heap.size := (by omega); have : w.heap.size + 1 < w5.heap.size := (by omega); have : w.heap.size + 1 + 1 < w5.heap.size := (by omega); (try dsimp only)
  refine hK.out _ _ (by refine ⟨?_, ?_, ?_, ?_, ?_, ?_⟩ <;> go_simp) (fun hHeld2 => ?_)
  clear hK K hHeld; have hHeld := hHeld2; clear hHeld2
  (try simp only [List.getElem_toArray, List.getElem_cons_zero, List.getElem_cons_succ, Act.put, List.setIfInBounds_toArray, List.set_cons_zero, List.set_cons_succ])
  refine wpAnyH_take (i := 7) (v := ?_) rfl (by kernel_rfl) (by kernel_rfl) (by kernel_rfl) (fun _ _ _ h => h) (Or.inl ⟨by rfl, ?_⟩) hHeld ?_
  rotate_left
  · (intro w0 hSw; (try dsimp only at hSw); (first | (go_simp; done) | (go_simp; with_reducible rfl)))
  (try simp only [List.getElem_toArray, List.getElem_cons_zero, List.getElem_cons_succ, Act.put, List.setIfInBounds_toArray, List.set_cons_zero, List.set_cons_succ])
  refine wpAnyH_take (i := 8) (v := ?_) rfl (by kernel_rfl) (by kernel_rfl) (by kernel_rfl) (fun _ _ _ h => h) (Or.inl ⟨by rfl, ?_⟩) hHeld ?_
  rotate_left
  · (intro w0 hSw; (try dsimp only at hSw); (first | (go_simp; done) | (go_simp; with_reducible rfl)))
  (try simp only [List.getElem_toArray, List.getElem_cons_zero, List.getElem_cons_succ, Act.put, List.setIfInBounds_toArray, List.set_cons_zero, List.set_cons_succ])
  refine wpAnyH_ready (rs := [9]) (by kernel_rfl) (by simp) (AllReadyH.cons rfl (fun K hK => ?_) AllReadyH.nil)
  go_simp
  refine hK.out _ _ (by refine ⟨?_, ?_, ?_, ?_, ?_, ?_⟩ <;> go_simp) (fun hHeld2 => ?_)
  clear hK K hHeld; have hHeld := hHeld2; clear hHeld2
  (try simp only [List.getElem_toArray, List.getElem_cons_zero, List.getElem_cons_succ, Act.put, List.setIfInBounds_toArray, List.set_cons_zero, List.set_cons_succ])
  refine wpAnyH_take (i := 10) (v := ?_) rfl (by kernel_rfl) (by kernel_rfl) (by kernel_rfl) (fun _ _ _ h => h) (Or.inl ⟨by rfl, ?_⟩) hHeld ?_
  rotate_left
  · (intro w0 hSw; (try dsimp only at hSw); (first | (go_simp; done) | (go_simp; with_reducible rfl)))
  (try simp only [List.getElem_toArray, List.getElem_cons_zero, List.getElem_cons_succ, Act.put, List.setIfInBounds_toArray, List.set_cons_zero, List.set_cons_succ])
  refine wpAnyH_done (by kernel_rfl) ?_ _
  clear hHeld
  go_wp2
  refine bodyPost_ret (v := RV (fitR (x + y))) (by simp [results, Try.results13, go_sem, *]) rfl ⟨rfl, ?_⟩
  repeat (first | (with_reducible exact Below.refl _ _) | (with_reducible refine Below.drew ?_) | (refine Below.setCell ?_ (by first | exact Nat.le_refl _ | (simp; done) | (simp; omega) | omega) _) | (refine Below.alloc ?_ (by first | exact Nat.le_refl _ | (simp; done) | (simp; omega) | omega) _) | (refine Below.trans ?_ (Below.mono (by assumption) (by first | exact Nat.le_refl _ | (simp; done) | (simp; omega) | omega))))

set_option maxHeartbeats 1000000 in
theorem add_ge (x y : Int) (hx : x.natAbs < topN) (hy : y.natAbs < topN) (hs : negZ x ≠ negZ y) (hl : ¬ x.natAbs < y.natAbs) (w : World) :
    Calls Try.prog 13 #[ZV x, ZV y] w fun e w' => e = .returned (RV (fitR (x + y))) ∧ Below w.heap.size w w' := by
  have ht : (negZ x == negZ y) = false := by simpa using hs
  have C1 := Lib.hid (good_z' hx)
  have C2 := Lib.hid (good_z' hy)
  have Cb : Hid (∀ w, Calls Try.prog 42 #[ZV x, ZV y] w fun e w' => e = .returned (.bool false) ∧ Below w.heap.size w w') := by
    intro w
    have h := below_m (negZ x) (negZ y) x.natAbs y.natAbs w
    rw [decide_eq_false (by omega)] at h
    exact h
  have C3 : Hid (∀ w, Calls Try.prog 43 #[ZV x, ZV y] w fun e w' => e = .returned (MV false (x.natAbs - y.natAbs)) ∧ Below w.heap.size w w') := fun w => minus_m _ _ _ _ (by omega) (by rw [topN_eq] at hx hy; omega) w
  have C4 : Hid (∀ w, Calls Try.prog 40 #[MV false (x.natAbs - y.natAbs)] w fun e w' => e = .returned (QV (x.natAbs - y.natAbs)) ∧ Below w.heap.size w w') := fun w => widen_m _ _ (by rw [topN_eq] at hx hy; omega) w
  have C5 : Hid (∀ w, Calls Try.prog 39 #[QV (x.natAbs - y.natAbs), .bool (negZ x)] w fun e w' => e = .returned (RV (fitR (x + y))) ∧ Below w.heap.size w w') := by
    intro w
    refine (fit_m (x.natAbs - y.natAbs) (negZ x) (by rw [topN_eq] at hx hy; omega) w).mono ?_
    rintro e w' ⟨rfl, hb⟩
    exact ⟨ret_v (ret_fit (by unfold negZ at hs; rw [Ne, decide_eq_decide] at hs; omega) (by intro h0; unfold negZ at hs ⊢; rw [Ne, decide_eq_decide] at hs; rw [decide_eq_decide]; omega)), hb⟩
  clear hx hy hs hl
  go_enter Try.func13, Try.ntmps13
  go_wp2_with fail; refine (C1.out _).mono ?_; rintro ew1 w1 ⟨rfl, hbw1⟩; obtain ⟨hcw1, hfw1⟩ := bcell hbw1; (try simp only [World.size_drew, World.cell?_drew, World.frozen?_drew] at hcw1 hfw1); have hzw1 := hbw1.size; (try simp at hzw1); have : w.heap.size < w1.heap.size := (by omega); have : w.heap.size + 1 < w1.heap.size := (by omega); have : w.heap.size + 1 + 1 < w1.heap.size := (by omega); (try dsimp only)
  go_wp2_with fail; refine (C2.out _).mono ?_; rintro ew2 w2 ⟨rfl, hbw2⟩; obtain ⟨hcw2, hfw2⟩ := bcell hbw2; (try simp only [World.size_drew, World.cell?_drew, World.frozen?_drew] at hcw2 hfw2); have hzw2 := hbw2.size; (try simp at hzw2); have : w.heap.size < w2.heap.size := (by omega); have : w.heap.size + 1 < w2.heap.size := (by omega); have : w.heap.size + 1 + 1 < w2.heap.size := (by omega); (try dsimp only)
  go_wp2_with fail; refine (Cb.out _).mono ?_; rintro ew3 w3 ⟨rfl, hbw3⟩; obtain ⟨hcw3, hfw3⟩ := bcell hbw3; (try simp only [World.size_drew, World.cell?_drew, World.frozen?_drew] at hcw3 hfw3); have hzw3 := hbw3.size; (try simp at hzw3); have : w.heap.size < w3.heap.size := (by omega); have : w.heap.size + 1 < w3.heap.size := (by omega); have : w.heap.size + 1 + 1 < w3.heap.size := (by omega); (try dsimp only)
  go_wp2_with fail
  refine wp_region_held_drew (S := fun w' => w'.cell? ⟨w.heap.size, 0, none⟩ = some (.bool (negZ x)) ∧ w'.cell? ⟨w.heap.size, 1, none⟩ = some (.int .u64 (hiN x.natAbs : Int)) ∧ w'.cell? ⟨w.heap.size, 2, none⟩ = some (.int .u64 (loN x.natAbs : Int)) ∧
      w'.cell? ⟨w.heap.size + 1, 0, none⟩ = some (.bool (negZ y)) ∧ w'.cell? ⟨w.heap.size + 1, 1, none⟩ = some (.int .u64 (hiN y.natAbs : Int)) ∧ w'.cell? ⟨w.heap.size + 1, 2, none⟩ = some (.int .u64 (loN y.natAbs : Int)))
    (by kernel_rfl) (by refine ⟨?_, ?_, ?_, ?_, ?_, ?_⟩ <;> go_simp) (fun hHeld => ?_)
  refine wpAnyH_take (i := 0) (v := ?_) rfl (by kernel_rfl) (by kernel_rfl) (by kernel_rfl) (fun _ _ _ h => h) (Or.inl ⟨by rfl, ?_⟩) hHeld ?_
  rotate_left
  · (intro w0 hSw; (try dsimp only at hSw); (first | (go_simp; done) | (go_simp; with_reducible rfl)))
  (try simp only [List.getElem_toArray, List.getElem_cons_zero, List.getElem_cons_succ, Act.put, List.setIfInBounds_toArray, List.set_cons_zero, List.set_cons_succ])
  refine wpAnyH_take (i := 1) (v := ?_) rfl (by kernel_rfl) (by kernel_rfl) (by kernel_rfl) (fun _ _ _ h => h) (Or.inl ⟨by rfl, ?_⟩) hHeld ?_
  rotate_left
  · (intro w0 hSw; (try dsimp only at hSw); (first | (go_simp; done) | (go_simp; with_reducible rfl)))
  (try simp only [List.getElem_toArray, List.getElem_cons_zero, List.getElem_cons_succ, Act.put, List.setIfInBounds_toArray, List.set_cons_zero, List.set_cons_succ])
  refine wpAnyH_take (i := 4) (v := ?_) rfl (by kernel_rfl) (by kernel_rfl) (by kernel_rfl) (fun _ _ _ h => h) (Or.inl ⟨by rfl, ?_⟩) hHeld ?_
  rotate_left
  · (intro w0 hSw; (try dsimp only at hSw); (first | (go_simp; done) | (go_simp; with_reducible rfl)))
  (try simp only [List.getElem_toArray, List.getElem_cons_zero, List.getElem_cons_succ, Act.put, List.setIfInBounds_toArray, List.set_cons_zero, List.set_cons_succ])
  refine wpAnyH_take (i := 5) (v := ?_) rfl (by kernel_rfl) (by kernel_rfl) (by kernel_rfl) (fun _ _ _ h => h) (Or.inl ⟨by rfl, ?_⟩) hHeld ?_
  rotate_left
  · (intro w0 hSw; (try dsimp only at hSw); (first | (go_simp; done) | (go_simp; with_reducible rfl)))
  (try simp only [List.getElem_toArray, List.getElem_cons_zero, List.getElem_cons_succ, Act.put, List.setIfInBounds_toArray, List.set_cons_zero, List.set_cons_succ])
  refine wpAnyH_ready (rs := [2]) (by kernel_rfl) (by simp) (AllReadyH.cons rfl (fun K hK => ?_) AllReadyH.nil)
  go_simp
  refine (C3.out _).mono ?_; rintro ew4 w4 ⟨rfl, hbw4⟩; obtain ⟨hcw4, hfw4⟩ := bcell hbw4; (try simp only [World.size_drew, World.cell?_drew, World.frozen?_drew] at hcw4 hfw4); have hzw4 := hbw4.size; (try simp at hzw4); have : w.heap.size < w4.heap.size := (by omega); have : w.heap.size + 1 < w4.heap.size := (by omega); have : w.heap.size + 1 + 1 < w4.heap.size := (by omega); (try dsimp only)
  refine hK.out _ _ (by refine ⟨?_, ?_, ?_, ?_, ?_, ?_⟩ <;> go_simp) (fun hHeld2 => ?_)
  clear hK K hHeld; have hHeld := hHeld2; clear hHeld2
  (try simp only [List.getElem_toArray, List.getElem_cons_zero, List.getElem_cons_succ, Act.put, List.setIfInBounds_toArray, List.set_cons_zero, List.set_cons_succ])
  refine wpAnyH_ready (rs := [3]) (by kernel_rfl) (by simp) (AllReadyH.cons rfl (fun K hK => ?_) AllReadyH.nil)
  go_simp
  refine (C4.out _).mono ?_; rintro ew5 w5 ⟨rfl, hbw5⟩; obtain ⟨hcw5, hfw5⟩ := bcell hbw5; (try simp only [World.size_drew, World.cell?_drew, World.frozen?_drew] at hcw5 hfw5); have hzw5 := hbw5.size; (try simp at hzw5); have : w.heap.size < w5.heap.size := (by omega); have : w.heap.size + 1 < w5.heap.size := (by omega); have : w.heap.size + 1 + 1 < w5.heap.size := (by omega); (try dsimp only)
  refine hK.out _ _ (by refine ⟨?_, ?_, ?_, ?_, ?_, ?_⟩ <;> go_simp) (fun hHeld2 => ?_)
  clear hK K hHeld; have hHeld := hHeld2; clear hHeld2
  (try simp only [List.getElem_toArray, List.getElem_cons_zero, List.getElem_cons_succ, Act.put, List.setIfInBounds_toArray, List.set_cons_zero, List.set_cons_succ])
  refine wpAnyH_ready (rs := [6]) (by kernel_rfl) (by simp) (AllReadyH.cons rfl (fun K hK => ?_) AllReadyH.nil)
  go_simp
  refine (C5.out _).mono ?_; rintro ew6 w6 ⟨rfl, hbw6⟩; obtain ⟨hcw6, hfw6⟩ := bcell hbw6; (try simp only [World.size_drew, World.cell?_drew, World.frozen?_drew] at hcw6 hfw6); have hzw6 := hbw6.size; (try simp at hzw6); have : w.heap.size < w6.heap.size := (by omega); have : w.heap.size + 1 < w6.heap.size := (by omega); have : w.heap.size + 1 + 1 < w6.heap.size := (by omega); (try dsimp only)
  refine hK.out _ _ (by refine ⟨?_, ?_, ?_, ?_, ?_, ?_⟩ <;> go_simp) (fun hHeld2 => ?_)
  clear hK K hHeld; have hHeld := hHeld2; clear hHeld2
  (try simp only [List.getElem_toArray, List.getElem_cons_zero, List.getElem_cons_succ, Act.put, List.setIfInBounds_toArray, List.set_cons_zero, List.set_cons_succ])
  refine wpAnyH_take (i := 7) (v := ?_) rfl (by kernel_rfl) (by kernel_rfl) (by kernel_rfl) (fun _ _ _ h => h) (Or.inl ⟨by rfl, ?_⟩) hHeld ?_
  rotate_left
  · (intro w0 hSw; (try dsimp only at hSw); (first | (go_simp; done) | (go_simp; with_reducible rfl)))
  (try simp only [List.getElem_toArray, List.getElem_cons_zero, List.getElem_cons_succ, Act.put, List.setIfInBounds_toArray, List.set_cons_zero, List.set_cons_succ])
  refine wpAnyH_take (i := 8) (v := ?_) rfl (by kernel_rfl) (by kernel_rfl) (by kernel_rfl) (fun _ _ _ h => h) (Or.inl ⟨by rfl, ?_⟩) hHeld ?_
  rotate_left
  · (intro w0 hSw; (try dsimp only at hSw); (first | (go_simp; done) | (go_simp; with_reducible rfl)))
  (try simp only [List.getElem_toArray, List.getElem_cons_zero, List.getElem_cons_succ, Act.put, List.setIfInBounds_toArray, List.set_cons_zero, List.set_cons_succ])
  refine wpAnyH_ready (rs := [9]) (by kernel_rfl) (by simp) (AllReadyH.cons rfl (fun K hK => ?_) AllReadyH.nil)
  go_simp
  refine hK.out _ _ (by refine ⟨?_, ?_, ?_, ?_, ?_, ?_⟩ <;> go_simp) (fun hHeld2 => ?_)
  clear hK K hHeld; have hHeld := hHeld2; clear hHeld2
  (try simp only [List.getElem_toArray, List.getElem_cons_zero, List.getElem_cons_succ, Act.put, List.setIfInBounds_toArray, List.set_cons_zero, List.set_cons_succ])
  refine wpAnyH_take (i := 10) (v := ?_) rfl (by kernel_rfl) (by kernel_rfl) (by kernel_rfl) (fun _ _ _ h => h) (Or.inl ⟨by rfl, ?_⟩) hHeld ?_
  rotate_left
  · (intro w0 hSw; (try dsimp only at hSw); (first | (go_simp; done) | (go_simp; with_reducible rfl)))
  (try simp only [List.getElem_toArray, List.getElem_cons_zero, List.getElem_cons_succ, Act.put, List.setIfInBounds_toArray, List.set_cons_zero, List.set_cons_succ])
  refine wpAnyH_done (by kernel_rfl) ?_ _
  clear hHeld
  go_wp2
  refine bodyPost_ret (v := RV (fitR (x + y))) (by simp [results, Try.results13, go_sem, *]) rfl ⟨rfl, ?_⟩
  repeat (first | (with_reducible exact Below.refl _ _) | (with_reducible refine Below.drew ?_) | (refine Below.setCell ?_ (by first | exact Nat.le_refl _ | (simp; done) | (simp; omega) | omega) _) | (refine Below.alloc ?_ (by first | exact Nat.le_refl _ | (simp; done) | (simp; omega) | omega) _) | (refine Below.trans ?_ (Below.mono (by assumption) (by first | exact Nat.le_refl _ | (simp; done) | (simp; omega) | omega))))

set_option maxHeartbeats 1000000 in
theorem add_lt (x y : Int) (hx : x.natAbs < topN) (hy : y.natAbs < topN) (hs : negZ x ≠ negZ y) (hl : x.natAbs < y.natAbs) (w : World) :
    Calls Try.prog 13 #[ZV x, ZV y] w fun e w' => e = .returned (RV (fitR (x + y))) ∧ Below w.heap.size w w' := by
  have ht : (negZ x == negZ y) = false := by simpa using hs
  have C1 := Lib.hid (good_z' hx)
  have C2 := Lib.hid (good_z' hy)
  have Cb : Hid (∀ w, Calls Try.prog 42 #[ZV x, ZV y] w fun e w' => e = .returned (.bool true) ∧ Below w.heap.size w w') := by
    intro w
    have h := below_m (negZ x) (negZ y) x.natAbs y.natAbs w
    rw [decide_eq_true (by omega)] at h
    exact h
  have C3 : Hid (∀ w, Calls Try.prog 43 #[ZV y, ZV x] w fun e w' => e = .returned (MV false (y.natAbs - x.natAbs)) ∧ Below w.heap.size w w') := fun w => minus_m _ _ _ _ (by omega) (by rw [topN_eq] at hx hy; omega) w
  have C4 : Hid (∀ w, Calls Try.prog 40 #[MV false (y.natAbs - x.natAbs)] w fun e w' => e = .returned (QV (y.natAbs - x.natAbs)) ∧ Below w.heap.size w w') := fun w => widen_m _ _ (by rw [topN_eq] at hx hy; omega) w
  have C5 : Hid (∀ w, Calls Try.prog 39 #[QV (y.natAbs - x.natAbs), .bool (negZ y)] w fun e w' => e = .returned (RV (fitR (x + y))) ∧ Below w.heap.size w w') := by
    intro w
    refine (fit_m (y.natAbs - x.natAbs) (negZ y) (by rw [topN_eq] at hx hy; omega) w).mono ?_
    rintro e w' ⟨rfl, hb⟩
    exact ⟨ret_v (ret_fit (by unfold negZ at hs; rw [Ne, decide_eq_decide] at hs; omega) (by intro h0; unfold negZ at hs ⊢; rw [Ne, decide_eq_decide] at hs; rw [decide_eq_decide]; omega)), hb⟩
  clear hx hy hs hl
  go_enter Try.func13, Try.ntmps13
  go_wp2_with fail; refine (C1.out _).mono ?_; rintro ew1 w1 ⟨rfl, hbw1⟩; obtain ⟨hcw1, hfw1⟩ := bcell hbw1; (try simp only [World.size_drew, World.cell?_drew, World.frozen?_drew] at hcw1 hfw1); have hzw1 := hbw1.size; (try simp at hzw1); have : w.heap.size < w1.heap.size := (by omega); have : w.heap.size + 1 < w1.heap.size := (by omega); have : w.heap.size + 1 + 1 < w1.heap.size := (by omega); (try dsimp only)
  go_wp2_with fail; refine (C2.out _).mono ?_; rintro ew2 w2 ⟨rfl, hbw2⟩; obtain ⟨hcw2, hfw2⟩ := bcell hbw2; (try simp only [World.size_drew, World.cell?_drew, World.frozen?_drew] at hcw2 hfw2); have hzw2 := hbw2.size; (try simp at hzw2); have : w.heap.size < w2.heap.size := (by omega); have : w.heap.size + 1 < w2.heap.size := (by omega); have : w.heap.size + 1 + 1 < w2.heap.size := (by omega); (try dsimp only)
  go_wp2_with fail; refine (Cb.out _).mono ?_; rintro ew3 w3 ⟨rfl, hbw3⟩; obtain ⟨hcw3, hfw3⟩ := bcell hbw3; (try simp only [World.size_drew, World.cell?_drew, World.frozen?_drew] at hcw3 hfw3); have hzw3 := hbw3.size; (try simp at hzw3); have : w.heap.size < w3.heap.size := (by omega); have : w.heap.size + 1 < w3.heap.size := (by omega); have : w.heap.size + 1 + 1 < w3.heap.size := (by omega); (try dsimp only)
  go_wp2_with fail
  have k0 : w3.cell? ⟨w.heap.size, 0, none⟩ = some (.bool (negZ x)) := by go_simp
  have k1 : w3.cell? ⟨w.heap.size, 1, none⟩ = some (.int .u64 (hiN x.natAbs : Int)) := by go_simp
  have k2 : w3.cell? ⟨w.heap.size, 2, none⟩ = some (.int .u64 (loN x.natAbs : Int)) := by go_simp
  have k3 : w3.cell? ⟨w.heap.size + 1, 0, none⟩ = some (.bool (negZ y)) := by go_simp
  have k4 : w3.cell? ⟨w.heap.size + 1, 1, none⟩ = some (.int .u64 (hiN y.natAbs : Int)) := by go_simp
  have k5 : w3.cell? ⟨w.heap.size + 1, 2, none⟩ = some (.int .u64 (loN y.natAbs : Int)) := by go_simp
  have r0 : w3.cell? ⟨w.heap.size + 1 + 1, 0, none⟩ = some (.bool false) := by go_simp
  have r1 : w3.cell? ⟨w.heap.size + 1 + 1, 1, none⟩ = some (.int .u64 0) := by go_simp
  have r2 : w3.cell? ⟨w.heap.size + 1 + 1, 2, none⟩ = some (.int .u64 0) := by go_simp
  have z0 : w3.frozen? ⟨w.heap.size + 1 + 1, 0, none⟩ = false := by go_simp
  have z1 : w3.frozen? ⟨w.heap.size + 1 + 1, 1, none⟩ = false := by go_simp
  have z2 : w3.frozen? ⟨w.heap.size + 1 + 1, 2, none⟩ = false := by go_simp
  have hB3 : Below w.heap.size w w3 := by repeat (first | (with_reducible exact Below.refl _ _) | (with_reducible refine Below.drew ?_) | (refine Below.setCell ?_ (by first | exact Nat.le_refl _ | (simp; done) | (simp; omega) | omega) _) | (refine Below.alloc ?_ (by first | exact Nat.le_refl _ | (simp; done) | (simp; omega) | omega) _) | (refine Below.trans ?_ (Below.mono (by assumption) (by first | exact Nat.le_refl _ | (simp; done) | (simp; omega) | omega))))
  have hzz : w.heap.size + 1 + 1 + 1 ≤ w3.heap.size := by omega
  generalize hW : (((((w3.setCell ⟨w.heap.size, 0, none⟩ (.bool (negZ y))).setCell ⟨w.heap.size, 1, none⟩ (.int .u64 (hiN y.natAbs : Int))).setCell ⟨w.heap.size, 2, none⟩ (.int .u64 (loN y.natAbs : Int))).setCell
    ⟨w.heap.size + 1, 0, none⟩ (.bool (negZ x))).setCell ⟨w.heap.size + 1, 1, none⟩ (.int .u64 (hiN x.natAbs : Int))).setCell ⟨w.heap.size + 1, 2, none⟩ (.int .u64 (loN x.natAbs : Int)) = W
  obtain ⟨c0, c1, c2, c3, c4, c5, hfW, hsW, hoW, hBW⟩ := swap_facts _ _ _ _ _ _ k0 k1 k2 k3 k4 k5 W hW.symm
  have hBelow := hB3.trans (hBW _ (Nat.le_refl _))
  rw [← hoW _ _ (by omega) (by omega)] at r0 r1 r2
  rw [← hfW] at z0 z1 z2
  rw [← hsW] at hzz
  obtain ⟨_, _, _⟩ := zs3 hzz
  clear hW hfW hsW hoW hBW hB3 k0 k1 k2 k3 k4 k5 hbw1 hcw1 hfw1 hzw1 hbw2 hcw2 hfw2 hzw2 hbw3 hcw3 hfw3 hzw3
  refine wp_region_held_drew (S := fun w' => w'.cell? ⟨w.heap.size, 0, none⟩ = some (.bool (negZ y)) ∧ w'.cell? ⟨w.heap.size, 1, none⟩ = some (.int .u64 (hiN y.natAbs : Int)) ∧ w'.cell? ⟨w.heap.size, 2, none⟩ = some (.int .u64 (loN y.natAbs : Int)) ∧
      w'.cell? ⟨w.heap.size + 1, 0, none⟩ = some (.bool (negZ x)) ∧ w'.cell? ⟨w.heap.size + 1, 1, none⟩ = some (.int .u64 (hiN x.natAbs : Int)) ∧ w'.cell? ⟨w.heap.size + 1, 2, none⟩ = some (.int .u64 (loN x.natAbs : Int)))
    (by kernel_rfl) (by refine ⟨?_, ?_, ?_, ?_, ?_, ?_⟩ <;> first | assumption | go_simp) (fun hHeld => ?_)
  refine wpAnyH_take (i := 0) (v := ?_) rfl (by kernel_rfl) (by kernel_rfl) (by kernel_rfl) (fun _ _ _ h => h) (Or.inl ⟨by rfl, ?_⟩) hHeld ?_
  rotate_left
  · (intro w0 hSw; (try dsimp only at hSw); (first | (go_simp; done) | (go_simp; with_reducible rfl)))
  (try simp only [List.getElem_toArray, List.getElem_cons_zero, List.getElem_cons_succ, Act.put, List.setIfInBounds_toArray, List.set_cons_zero, List.set_cons_succ])
  refine wpAnyH_take (i := 1) (v := ?_) rfl (by kernel_rfl) (by kernel_rfl) (by kernel_rfl) (fun _ _ _ h => h) (Or.inl ⟨by rfl, ?_⟩) hHeld ?_
  rotate_left
  · (intro w0 hSw; (try dsimp only at hSw); (first | (go_simp; done) | (go_simp; with_reducible rfl)))
  (try simp only [List.getElem_toArray, List.getElem_cons_zero, List.getElem_cons_succ, Act.put, List.setIfInBounds_toArray, List.set_cons_zero, List.set_cons_succ])
  refine wpAnyH_take (i := 4) (v := ?_) rfl (by kernel_rfl) (by kernel_rfl) (by kernel_rfl) (fun _ _ _ h => h) (Or.inl ⟨by rfl, ?_⟩) hHeld ?_
  rotate_left
  · (intro w0 hSw; (try dsimp only at hSw); (first | (go_simp; done) | (go_simp; with_reducible rfl)))
  (try simp only [List.getElem_toArray, List.getElem_cons_zero, List.getElem_cons_succ, Act.put, List.setIfInBounds_toArray, List.set_cons_zero, List.set_cons_succ])
  refine wpAnyH_take (i := 5) (v := ?_) rfl (by kernel_rfl) (by kernel_rfl) (by kernel_rfl) (fun _ _ _ h => h) (Or.inl ⟨by rfl, ?_⟩) hHeld ?_
  rotate_left
  · (intro w0 hSw; (try dsimp only at hSw); (first | (go_simp; done) | (go_simp; with_reducible rfl)))
  (try simp only [List.getElem_toArray, List.getElem_cons_zero, List.getElem_cons_succ, Act.put, List.setIfInBounds_toArray, List.set_cons_zero, List.set_cons_succ])
  refine wpAnyH_ready (rs := [2]) (by kernel_rfl) (by simp) (AllReadyH.cons rfl (fun K hK => ?_) AllReadyH.nil)
  go_simp
  refine (C3.out _).mono ?_; rintro ew4 w4 ⟨rfl, hbw4⟩; obtain ⟨hcw4, hfw4⟩ := bcell hbw4; (try simp only [World.size_drew, World.cell?_drew, World.frozen?_drew] at hcw4 hfw4); have hzw4 := hbw4.size; (try simp at hzw4); have : w.heap.size < w4.heap.size := (by omega); have : w.heap.size + 1 < w4.heap.size := (by omega); have : w.heap.size + 1 + 1 < w4.heap.size := (by omega); (try dsimp only)
  refine hK.out _ _ (by refine ⟨?_, ?_, ?_, ?_, ?_, ?_⟩ <;> go_simp) (fun hHeld2 => ?_)
  clear hK K hHeld; have hHeld := hHeld2; clear hHeld2
  (try simp only [List.getElem_toArray, List.getElem_cons_zero, List.getElem_cons_succ, Act.put, List.setIfInBounds_toArray, List.set_cons_zero, List.set_cons_succ])
  refine wpAnyH_ready (rs := [3]) (by kernel_rfl) (by simp) (AllReadyH.cons rfl (fun K hK => ?_) AllReadyH.nil)
  go_simp
  refine (C4.out _).mono ?_; rintro ew5 w5 ⟨rfl, hbw5⟩; obtain ⟨hcw5, hfw5⟩ := bcell hbw5; (try simp only [World.size_drew, World.cell?_drew, World.frozen?_drew] at hcw5 hfw5); have hzw5 := hbw5.size; (try simp at hzw5); have : w.heap.size < w5.heap.size := (by omega); have : w.heap.size + 1 < w5.heap.size := (by omega); have : w.heap.size + 1 + 1 < w5.heap.size := (by omega); (try dsimp only)
  refine hK.out _ _ (by refine ⟨?_, ?_, ?_, ?_, ?_, ?_⟩ <;> go_simp) (fun hHeld2 => ?_)
  clear hK K hHeld; have hHeld := hHeld2; clear hHeld2
  (try simp only [List.getElem_toArray, List.getElem_cons_zero, List.getElem_cons_succ, Act.put, List.setIfInBounds_toArray, List.set_cons_zero, List.set_cons_succ])
  refine wpAnyH_ready (rs := [6]) (by kernel_rfl) (by simp) (AllReadyH.cons rfl (fun K hK => ?_) AllReadyH.nil)
  go_simp
  refine (C5.out _).mono ?_; rintro ew6 w6 ⟨rfl, hbw6⟩; obtain ⟨hcw6, hfw6⟩ := bcell hbw6; (try simp only [World.size_drew, World.cell?_drew, World.frozen?_drew] at hcw6 hfw6); have hzw6 := hbw6.size; (try simp at hzw6); have : w.heap.size < w6.heap.size := (by omega); have : w.heap.size + 1 < w6.heap.size := (by omega); have : w.heap.size + 1 + 1 < w6.heap.size := (by omega); (try dsimp only)
  refine hK.out _ _ (by refine ⟨?_, ?_, ?_, ?_, ?_, ?_⟩ <;> go_simp) (fun hHeld2 => ?_)
  clear hK K hHeld; have hHeld := hHeld2; clear hHeld2
  (try simp only [List.getElem_toArray, List.getElem_cons_zero, List.getElem_cons_succ, Act.put, List.setIfInBounds_toArray, List.set_cons_zero, List.set_cons_succ])
  refine wpAnyH_take (i := 7) (v := ?_) rfl (by kernel_rfl) (by kernel_rfl) (by kernel_rfl) (fun _ _ _ h => h) (Or.inl ⟨by rfl, ?_⟩) hHeld ?_
  rotate_left
  · (intro w0 hSw; (try dsimp only at hSw); (first | (go_simp; done) | (go_simp; with_reducible rfl)))
  (try simp only [List.getElem_toArray, List.getElem_cons_zero, List.getElem_cons_succ, Act.put, List.setIfInBounds_toArray, List.set_cons_zero, List.set_cons_succ])
  refine wpAnyH_take (i := 8) (v := ?_) rfl (by kernel_rfl) (by kernel_rfl) (by kernel_rfl) (fun _ _ _ h => h) (Or.inl ⟨by rfl, ?_⟩) hHeld ?_
  rotate_left
  · (intro w0 hSw; (try dsimp only at hSw); (first | (go_simp; done) | (go_simp; with_reducible rfl)))
  (try simp only [List.getElem_toArray, List.getElem_cons_zero, List.getElem_cons_succ, Act.put, List.setIfInBounds_toArray, List.set_cons_zero, List.set_cons_succ])
  refine wpAnyH_ready (rs := [9]) (by kernel_rfl) (by simp) (AllReadyH.cons rfl (fun K hK => ?_) AllReadyH.nil)
  go_simp
  refine hK.out _ _ (by refine ⟨?_, ?_, ?_, ?_, ?_, ?_⟩ <;> go_simp) (fun hHeld2 => ?_)
  clear hK K hHeld; have hHeld := hHeld2; clear hHeld2
  (try simp only [List.getElem_toArray, List.getElem_cons_zero, List.getElem_cons_succ, Act.put, List.setIfInBounds_toArray, List.set_cons_zero, List.set_cons_succ])
  refine wpAnyH_take (i := 10) (v := ?_) rfl (by kernel_rfl) (by kernel_rfl) (by kernel_rfl) (fun _ _ _ h => h) (Or.inl ⟨by rfl, ?_⟩) hHeld ?_
  rotate_left
  · (intro w0 hSw; (try dsimp only at hSw); (first | (go_simp; done) | (go_simp; with_reducible rfl)))
  (try simp only [List.getElem_toArray, List.getElem_cons_zero, List.getElem_cons_succ, Act.put, List.setIfInBounds_toArray, List.set_cons_zero, List.set_cons_succ])
  refine wpAnyH_done (by kernel_rfl) ?_ _
  clear hHeld
  go_wp2
  refine bodyPost_ret (v := RV (fitR (x + y))) (by simp [results, Try.results13, go_sem, *]) rfl ⟨rfl, ?_⟩
  repeat (first | (with_reducible exact Below.refl _ _) | (with_reducible refine Below.drew ?_) | (refine Below.setCell ?_ (by first | exact Nat.le_refl _ | (simp; done) | (simp; omega) | omega) _) | (refine Below.alloc ?_ (by first | exact Nat.le_refl _ | (simp; done) | (simp; omega) | omega) _) | (refine Below.trans ?_ (Below.mono (by assumption) (by first | exact Nat.le_refl _ | (simp; done) | (simp; omega) | omega))))
end Go.Proofs.Ytanfgolelhmdhaa
