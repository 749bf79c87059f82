/- The contract of Prefix. -/
import Derived.Test.YtfecnogmjfmghaaDoorNumG
import Derived.Test.YtfecnogmjfmghaaDoorDecB
import Derived.Deep.RegionHeld3
import Derived.Lib.SlBytesConst
import Derived.Laws.IdiomStrings
namespace Go.Proofs.YtfecnogmjfmghaaDoor
set_option linter.unusedSimpArgs false
set_option linter.unusedVariables false
set_option linter.unnecessarySimpa false
open Go.RowKit

theorem fitZ_neg (z : Int) : fitZ (-z) = -fitZ z := by
  unfold fitZ; rw [Int.natAbs_neg]; split <;> simp
theorem numR_z (m : Nat) : numR m = .tuple #[ZV (fitZ (m : Int)), errV (fitC m)] := by
  unfold numR ZV fitZ fitQ
  by_cases h : m < topN
  · simp [h, negZ]
  · simp [h, negZ]
theorem fitZ_lt (z : Int) : (fitZ z).natAbs < topN := by
  unfold fitZ; split
  · assumption
  · decide
theorem pre1 (t : Shp) : t.pre 1 = t.b := by simp [Shp.pre]
theorem pre2 (t : Shp) : t.pre 2 = t.b + t.s := by simp [Shp.pre]
theorem pre3 (t : Shp) : t.pre 3 = t.b + t.s + t.w := by simp [Shp.pre]
theorem pre4 (t : Shp) : t.pre 4 = t.b + t.s + t.w + t.p := by simp [Shp.pre]
theorem pre5' (t : Shp) : t.pre 5 = t.b + t.s + t.w + t.p + t.f := by simp [Shp.pre]

set_option maxRecDepth 100000 in
set_option maxHeartbeats 4000000 in
theorem prefix_none {p : Option Addr} {c : Nat} {l : List UInt8} {w : World} (h : U8s w p l) (hlc : l.length ≤ c) (hl : l.length ≤ 281474976710656) (hN : numN l = 0) :
    Calls Tryd.prog 10 #[.slice p l.length c] w fun e w' => e = .returned (.tuple #[ZV 0, .int .i64 0, .nilIface]) ∧ Below w.heap.size w w' := by
  have C1 : Hid (∀ W, Below w.heap.size w W → Calls Tryd.prog 23 #[.slice p l.length c] W fun e w' => e = .returned (shpV (shp l)) ∧ Below W.heap.size W w') := fun W hW => shapeOf_u (h.on hW) hlc hl
  have C2 : Hid (∀ W, Calls Tryd.prog 24 #[shpV (shp l), .int .i64 5] W fun e w' => e = .returned (.int .i64 0) ∧ Below W.heap.size W w') := by
    intro W
    have h5 := begin_u (shp l) 5 (by omega) (by have := shp_sum l; omega) W
    rw [Shp.pre5, show (shp l).sum = 0 from hN] at h5
    exact h5
  clear h hlc hN
  generalize shp l = t at *
  generalize l.length = n at *
  go_enter Tryd.func10, Tryd.ntmps10
  go_wp2_with fail; refine (C1.out _ (by repeat (first | (with_reducible exact Below.refl _ _) | (with_reducible refine Below.drew ?_) | (refine Below.setCell ?_ (by first | exact Nat.le_refl _ | (simp; done) | (simp; omega) | omega) _) | (refine Below.alloc ?_ (by first | exact Nat.le_refl _ | (simp; done) | (simp; omega) | omega) _) | (refine Below.trans ?_ (Below.mono (by assumption) (by first | exact Nat.le_refl _ | (simp; done) | (simp; omega) | omega)))))).mono ?_; rintro ew1 w1 ⟨rfl, hbw1⟩; obtain ⟨hcw1, hfw1⟩ := bcell hbw1; (try simp only [World.size_drew, World.cell?_drew, World.frozen?_drew] at hcw1 hfw1); have hzw1 := hbw1.size; (try simp at hzw1); have : w.heap.size < w1.heap.size := (by omega); (try dsimp only)
  go_wp2_with fail; refine (C2.out _).mono ?_; rintro ew2 w2 ⟨rfl, hbw2⟩; obtain ⟨hcw2, hfw2⟩ := bcell hbw2; (try simp only [World.size_drew, World.cell?_drew, World.frozen?_drew] at hcw2 hfw2); have hzw2 := hbw2.size; (try simp at hzw2); have : w.heap.size < w2.heap.size := (by omega); have : w1.heap.size < w2.heap.size := (by omega); (try dsimp only)
  have r0 : Row w2 w.heap.size 26 #[.bool false, .int .u64 0, .int .u64 0] := (((Row.new w _ _).on hbw1).alloc _).on hbw2
  have hB2 : Below w.heap.size w w2 := by repeat (first | (with_reducible exact Below.refl _ _) | (with_reducible refine Below.drew ?_) | (refine Below.setCell ?_ (by first | exact Nat.le_refl _ | (simp; done) | (simp; omega) | omega) _) | (refine Below.alloc ?_ (by first | exact Nat.le_refl _ | (simp; done) | (simp; omega) | omega) _) | (refine Below.trans ?_ (Below.mono (by assumption) (by first | exact Nat.le_refl _ | (simp; done) | (simp; omega) | omega))))
  have c0 := r0.cell 0
  have c1 := r0.cell 1
  have c2 := r0.cell 2
  have f0 := r0.froz 0
  have f1 := r0.froz 1
  have f2 := r0.froz 2
  simp only [List.getElem?_toArray, List.getElem?_cons_zero, List.getElem?_cons_succ] at c0 c1 c2
  clear hcw1 hfw1 hcw2 hfw2 hbw1 hbw2 r0
  go_wp2
  refine bodyPost_ret (v := .tuple #[.agg #[.bool false, .int .u64 0, .int .u64 0], .int .i64 0, .nilIface]) (by simp [results, Tryd.results10, go_sem, *]) rfl ⟨rfl, ?_⟩
  repeat (first | (with_reducible exact Below.refl _ _) | (with_reducible refine Below.drew ?_) | (refine Below.setCell ?_ (by first | exact Nat.le_refl _ | (simp; done) | (simp; omega) | omega) _) | (refine Below.alloc ?_ (by first | exact Nat.le_refl _ | (simp; done) | (simp; omega) | omega) _) | (refine Below.trans ?_ (Below.mono (by assumption) (by first | exact Nat.le_refl _ | (simp; done) | (simp; omega) | omega))))

theorem bs_one (w : World) (c : UInt8) (T : TypeId) (fr : Nat × Nat) : BS (w.alloc (.cells #[.int .u8 ((c.toNat : Nat) : Int)] T fr)) (.slice (some ⟨w.heap.size, 0, none⟩) 1 1) [c] := by
  refine ⟨_, 1, rfl, Nat.le_refl _, by simp [maxLen], fun _ => ⟨w.heap.size, 0, rfl, by simp, fun j hj => ?_⟩⟩
  have : j = 0 := by simp at hj; exact hj
  subst this
  exact World.cell?_alloc_mark w _ _ _ 0
set_option maxRecDepth 100000 in
set_option maxHeartbeats 4000000 in
theorem prefix_some {p : Option Addr} {c : Nat} {l : List UInt8} {w : World} (h : U8s w p l) (hlc : l.length ≤ c) (hc : c ≤ maxLen) (hl : l.length ≤ 281474976710656) (hN : numN l ≠ 0) :
    Calls Tryd.prog 10 #[.slice p l.length c] w fun e w' => e = .returned (.tuple #[ZV (fitZ (numZ l)), .int .i64 ((numN l : Nat) : Int), errV (fitC (magN l))]) ∧ Below w.heap.size w w' := by
  have hsum := shp_sum l
  have hsum' : (shp l).b + (shp l).s + (shp l).w + (shp l).p + (shp l).f ≤ l.length := hsum
  have C1 : Hid (∀ W, Below w.heap.size w W → Calls Tryd.prog 23 #[.slice p l.length c] W fun e w' => e = .returned (shpV (shp l)) ∧ Below W.heap.size W w') := fun W hW => shapeOf_u (h.on hW) hlc hl
  have C2 : Hid (∀ W, Calls Tryd.prog 24 #[shpV (shp l), .int .i64 5] W fun e w' => e = .returned (.int .i64 ((numN l : Nat) : Int)) ∧ Below W.heap.size W w') := by
    intro W
    have h5 := begin_u (shp l) 5 (by omega) (by omega) W
    rw [Shp.pre5] at h5
    exact h5
  have B3 : BS w (subV p c ((shp l).pre 2) ((shp l).pre 3)) (wholeL l) := by
    have := subV_bs h hlc hc (i := (shp l).pre 2) (j := (shp l).pre 3) (by rw [pre2, pre3]; omega) (by rw [pre3]; omega)
    unfold wholeL
    rw [pre2, pre3, show (shp l).b + (shp l).s + (shp l).w - ((shp l).b + (shp l).s) = (shp l).w by omega] at this
    rw [pre2, pre3]; exact this
  have B4 : BS w (subV p c ((shp l).pre 4) ((shp l).pre 5)) (fracL l) := by
    have := subV_bs h hlc hc (i := (shp l).pre 4) (j := (shp l).pre 5) (by rw [pre4, pre5']; omega) (by rw [pre5']; omega)
    unfold fracL
    rw [pre4, pre5', show (shp l).b + (shp l).s + (shp l).w + (shp l).p + (shp l).f - ((shp l).b + (shp l).s + (shp l).w + (shp l).p) = (shp l).f by omega] at this
    rw [pre4, pre5']; exact this
  have B6 : BS w (subV p c ((shp l).pre 1) ((shp l).pre 2)) (signL l) := by
    have := subV_bs h hlc hc (i := (shp l).pre 1) (j := (shp l).pre 2) (by rw [pre1, pre2]; omega) (by rw [pre2]; omega)
    unfold signL
    rw [pre1, pre2, show (shp l).b + (shp l).s - (shp l).b = (shp l).s by omega] at this
    rw [pre1, pre2]; exact this
  have C3 : Hid (∀ W, Calls Tryd.prog 26 #[shpV (shp l), .slice p l.length c, .int .i64 2] W fun e w' => e = .returned (subV p c ((shp l).pre 2) ((shp l).pre 3)) ∧ Below W.heap.size W w') := cut_u (shp l) 2 (by omega) p l.length c hsum hl hlc
  have C4 : Hid (∀ W, Calls Tryd.prog 26 #[shpV (shp l), .slice p l.length c, .int .i64 4] W fun e w' => e = .returned (subV p c ((shp l).pre 4) ((shp l).pre 5)) ∧ Below W.heap.size W w') := cut_u (shp l) 4 (by omega) p l.length c hsum hl hlc
  have C6 : Hid (∀ W, Calls Tryd.prog 26 #[shpV (shp l), .slice p l.length c, .int .i64 1] W fun e w' => e = .returned (subV p c ((shp l).pre 1) ((shp l).pre 2)) ∧ Below W.heap.size W w') := cut_u (shp l) 1 (by omega) p l.length c hsum hl hlc
  have C5 : Hid (∀ W, Below w.heap.size w W → Calls Tryd.prog 25 #[subV p c ((shp l).pre 2) ((shp l).pre 3), subV p c ((shp l).pre 4) ((shp l).pre 5)] W fun e w' => e = .returned (.tuple #[ZV (fitZ (magN l : Int)), errV (fitC (magN l))]) ∧ Below W.heap.size W w') := by
    intro W hW
    have := number_u (B3.on hW) (B4.on hW) (whole_dgt l) (frac_dgt l)
    rw [numR_z] at this
    exact this
  have C7 : Hid (∀ W v', Below w.heap.size w W → BS W v' [45] → Calls Tryd.prog 27 #[subV p c ((shp l).pre 1) ((shp l).pre 2), v'] W fun e w' => e = .returned (.bool (signL l == [45])) ∧ W = w') := fun W v' hW hv => equal_u (B6.on hW) hv
  have C8 : Hid (∀ W, Calls Tryd.prog 28 #[ZV (fitZ (magN l : Int))] W fun e w' => e = .returned (ZV (-fitZ (magN l : Int))) ∧ Below W.heap.size W w') := neg_z _ (fitZ_lt _)
  have HZ : Hid (fitZ (numZ l) = if (signL l == [45]) = true then -fitZ (magN l : Int) else fitZ (magN l : Int)) := by
    show _ = _
    unfold numZ
    by_cases hs : signL l = [45]
    · rw [if_pos hs, if_pos (by rw [hs]; rfl), fitZ_neg]
    · rw [if_neg hs, if_neg (by simpa using hs)]
  have tN : (((numN l : Nat) : Int) == 0) = false := by rw [beq_eq_false_iff_ne]; omega
  clear h hlc hc hN hsum hsum' B3 B4 B6
  generalize fitZ (numZ l) = Zr at *
  generalize fitZ (magN l : Int) = Z0 at *
  generalize fitC (magN l) = cc at *
  generalize (signL l == [45]) = sg at *
  generalize subV p c ((shp l).pre 2) ((shp l).pre 3) = s2 at *
  generalize subV p c ((shp l).pre 4) ((shp l).pre 5) = s4 at *
  generalize subV p c ((shp l).pre 1) ((shp l).pre 2) = s1 at *
  generalize numN l = N at *
  generalize shp l = t at *
  generalize l.length = n at *
  go_enter Tryd.func10, Tryd.ntmps10
  go_wp2_with fail; refine (C1.out _ (by repeat (first | (with_reducible exact Below.refl _ _) | (with_reducible refine Below.drew ?_) | (refine Below.setCell ?_ (by first | exact Nat.le_refl _ | (simp; done) | (simp; omega) | omega) _) | (refine Below.alloc ?_ (by first | exact Nat.le_refl _ | (simp; done) | (simp; omega) | omega) _) | (refine Below.trans ?_ (Below.mono (by assumption) (by first | exact Nat.le_refl _ | (simp; done) | (simp; omega) | omega)))))).mono ?_; rintro ew1 w1 ⟨rfl, hbw1⟩; obtain ⟨hcw1, hfw1⟩ := bcell hbw1; (try simp only [World.size_drew, World.cell?_drew, World.frozen?_drew] at hcw1 hfw1); have hzw1 := hbw1.size; (try simp at hzw1); have : w.heap.size < w1.heap.size := (by omega); (try dsimp only)
  go_wp2_with fail; refine (C2.out _).mono ?_; rintro ew2 w2 ⟨rfl, hbw2⟩; obtain ⟨hcw2, hfw2⟩ := bcell hbw2; (try simp only [World.size_drew, World.cell?_drew, World.frozen?_drew] at hcw2 hfw2); have hzw2 := hbw2.size; (try simp at hzw2); have : w.heap.size < w2.heap.size := (by omega); have : w1.heap.size < w2.heap.size := (by omega); (try dsimp only)
  have r0 : Row w2 w.heap.size 26 #[.bool false, .int .u64 0, .int .u64 0] := (((Row.new w _ _).on hbw1).alloc _).on hbw2
  have r1 : Row w2 w1.heap.size 53 (shpA t) := (Row.new w1 _ _).on hbw2
  have hB2 : Below w.heap.size w w2 := by repeat (first | (with_reducible exact Below.refl _ _) | (with_reducible refine Below.drew ?_) | (refine Below.setCell ?_ (by first | exact Nat.le_refl _ | (simp; done) | (simp; omega) | omega) _) | (refine Below.alloc ?_ (by first | exact Nat.le_refl _ | (simp; done) | (simp; omega) | omega) _) | (refine Below.trans ?_ (Below.mono (by assumption) (by first | exact Nat.le_refl _ | (simp; done) | (simp; omega) | omega))))
  have d0 := r1.cell 0
  have d1 := r1.cell 1
  have d2 := r1.cell 2
  have d3 := r1.cell 3
  have d4 := r1.cell 4
  have c0 := r0.cell 0
  have c1 := r0.cell 1
  have c2 := r0.cell 2
  have f0 := r0.froz 0
  have f1 := r0.froz 1
  have f2 := r0.froz 2
  simp only [List.getElem?_toArray, List.getElem?_cons_zero, List.getElem?_cons_succ] at c0 c1 c2 d0 d1 d2 d3 d4
  clear hcw1 hfw1 hcw2 hfw2 hbw1 hbw2
  go_wp2_with fail
  refine wp_region_held_drew (S := fun w' => w'.cell? ⟨w1.heap.size, 0, none⟩ = some (.int .i64 (t.b : Int)) ∧ w'.cell? ⟨w1.heap.size, 1, none⟩ = some (.int .i64 (t.s : Int)) ∧ w'.cell? ⟨w1.heap.size, 2, none⟩ = some (.int .i64 (t.w : Int)) ∧ w'.cell? ⟨w1.heap.size, 3, none⟩ = some (.int .i64 (t.p : Int)) ∧ w'.cell? ⟨w1.heap.size, 4, none⟩ = some (.int .i64 (t.f : Int))) (by kernel_rfl) (by refine ⟨?_, ?_, ?_, ?_, ?_⟩ <;> go_simp) (fun hHeld => ?_)
  refine wpAnyH_take (i := 0) (v := ?_) rfl (by kernel_rfl) (by kernel_rfl) (by kernel_rfl) (fun _ _ _ h => h) (Or.inl ⟨by rfl, ?_⟩) hHeld ?_
  rotate_left
  · (intro w0 hSw; (try dsimp only at hSw); (first | (go_simp; done) | (go_simp; with_reducible rfl)))
  (try simp only [List.getElem_toArray, List.getElem_cons_zero, List.getElem_cons_succ, Act.put, List.setIfInBounds_toArray, List.set_cons_zero, List.set_cons_succ])
  refine wpAnyH_take (i := 1) (v := ?_) rfl (by kernel_rfl) (by kernel_rfl) (by kernel_rfl) (fun _ _ _ h => h) (Or.inl ⟨by rfl, ?_⟩) hHeld ?_
  rotate_left
  · (intro w0 hSw; (try dsimp only at hSw); (first | (go_simp; done) | (go_simp; with_reducible rfl)))
  (try simp only [List.getElem_toArray, List.getElem_cons_zero, List.getElem_cons_succ, Act.put, List.setIfInBounds_toArray, List.set_cons_zero, List.set_cons_succ])
  refine wpAnyH_take (i := 3) (v := ?_) rfl (by kernel_rfl) (by kernel_rfl) (by kernel_rfl) (fun _ _ _ h => h) (Or.inl ⟨by rfl, ?_⟩) hHeld ?_
  rotate_left
  · (intro w0 hSw; (try dsimp only at hSw); (first | (go_simp; done) | (go_simp; with_reducible rfl)))
  (try simp only [List.getElem_toArray, List.getElem_cons_zero, List.getElem_cons_succ, Act.put, List.setIfInBounds_toArray, List.set_cons_zero, List.set_cons_succ])
  refine wpAnyH_take (i := 4) (v := ?_) rfl (by kernel_rfl) (by kernel_rfl) (by kernel_rfl) (fun _ _ _ h => h) (Or.inl ⟨by rfl, ?_⟩) hHeld ?_
  rotate_left
  · (intro w0 hSw; (try dsimp only at hSw); (first | (go_simp; done) | (go_simp; with_reducible rfl)))
  (try simp only [List.getElem_toArray, List.getElem_cons_zero, List.getElem_cons_succ, Act.put, List.setIfInBounds_toArray, List.set_cons_zero, List.set_cons_succ])
  refine wpAnyH_ready (rs := [2]) (by kernel_rfl) (by simp) (AllReadyH.cons rfl (fun K hK => ?_) AllReadyH.nil)
  go_simp
  refine (C3.out _).mono ?_; rintro ew3 w3 ⟨rfl, hbw3⟩; obtain ⟨hcw3, hfw3⟩ := bcell hbw3; (try simp only [World.size_drew, World.cell?_drew, World.frozen?_drew] at hcw3 hfw3); have hzw3 := hbw3.size; (try simp at hzw3); have : w.heap.size < w3.heap.size := (by omega); have : w1.heap.size < w3.heap.size := (by omega); (try dsimp only)
  refine hK.out _ _ (by refine ⟨?_, ?_, ?_, ?_, ?_⟩ <;> go_simp) (fun hHeld2 => ?_)
  clear hK K hHeld; have hHeld := hHeld2; clear hHeld2
  (try simp only [List.getElem_toArray, List.getElem_cons_zero, List.getElem_cons_succ, Act.put, List.setIfInBounds_toArray, List.set_cons_zero, List.set_cons_succ])
  refine wpAnyH_ready (rs := [5]) (by kernel_rfl) (by simp) (AllReadyH.cons rfl (fun K hK => ?_) AllReadyH.nil)
  go_simp
  refine (C4.out _).mono ?_; rintro ew4 w4 ⟨rfl, hbw4⟩; obtain ⟨hcw4, hfw4⟩ := bcell hbw4; (try simp only [World.size_drew, World.cell?_drew, World.frozen?_drew] at hcw4 hfw4); have hzw4 := hbw4.size; (try simp at hzw4); have : w.heap.size < w4.heap.size := (by omega); have : w1.heap.size < w4.heap.size := (by omega); (try dsimp only)
  refine hK.out _ _ (by refine ⟨?_, ?_, ?_, ?_, ?_⟩ <;> go_simp) (fun hHeld2 => ?_)
  clear hK K hHeld; have hHeld := hHeld2; clear hHeld2
  (try simp only [List.getElem_toArray, List.getElem_cons_zero, List.getElem_cons_succ, Act.put, List.setIfInBounds_toArray, List.set_cons_zero, List.set_cons_succ])
  refine wpAnyH_ready (rs := [6]) (by kernel_rfl) (by simp) (AllReadyH.cons rfl (fun K hK => ?_) AllReadyH.nil)
  go_simp
  refine (C5.out _ (by repeat (first | (with_reducible exact Below.refl _ _) | (with_reducible refine Below.drew ?_) | (refine Below.setCell ?_ (by first | exact Nat.le_refl _ | (simp; done) | (simp; omega) | omega) _) | (refine Below.alloc ?_ (by first | exact Nat.le_refl _ | (simp; done) | (simp; omega) | omega) _) | (refine Below.trans ?_ (Below.mono (by assumption) (by first | exact Nat.le_refl _ | (simp; done) | (simp; omega) | omega)))))).mono ?_; rintro ew5 w5 ⟨rfl, hbw5⟩; obtain ⟨hcw5, hfw5⟩ := bcell hbw5; (try simp only [World.size_drew, World.cell?_drew, World.frozen?_drew] at hcw5 hfw5); have hzw5 := hbw5.size; (try simp at hzw5); have : w.heap.size < w5.heap.size := (by omega); have : w1.heap.size < w5.heap.size := (by omega); (try dsimp only)
  refine hK.out _ _ (by refine ⟨?_, ?_, ?_, ?_, ?_⟩ <;> go_simp) (fun hHeld2 => ?_)
  clear hK K hHeld; have hHeld := hHeld2; clear hHeld2
  (try simp only [List.getElem_toArray, List.getElem_cons_zero, List.getElem_cons_succ, Act.put, List.setIfInBounds_toArray, List.set_cons_zero, List.set_cons_succ])
  refine wpAnyH_take (i := 7) (v := ?_) rfl (by kernel_rfl) (by kernel_rfl) (by kernel_rfl) (fun _ _ _ h => h) (Or.inl ⟨by rfl, ?_⟩) hHeld ?_
  rotate_left
  · (intro w0 hSw; (try dsimp only at hSw); (first | (go_simp; done) | (go_simp; with_reducible rfl)))
  (try simp only [List.getElem_toArray, List.getElem_cons_zero, List.getElem_cons_succ, Act.put, List.setIfInBounds_toArray, List.set_cons_zero, List.set_cons_succ])
  refine wpAnyH_take (i := 8) (v := ?_) rfl (by kernel_rfl) (by kernel_rfl) (by kernel_rfl) (fun _ _ _ h => h) (Or.inl ⟨by rfl, ?_⟩) hHeld ?_
  rotate_left
  · (intro w0 hSw; (try dsimp only at hSw); (first | (go_simp; done) | (go_simp; with_reducible rfl)))
  (try simp only [List.getElem_toArray, List.getElem_cons_zero, List.getElem_cons_succ, Act.put, List.setIfInBounds_toArray, List.set_cons_zero, List.set_cons_succ])
  refine wpAnyH_take (i := 9) (v := ?_) rfl (by kernel_rfl) (by kernel_rfl) (by kernel_rfl) (fun _ _ _ h => h) (Or.inl ⟨by rfl, ?_⟩) hHeld ?_
  rotate_left
  · (intro w0 hSw; (try dsimp only at hSw); (first | (go_simp; done) | (go_simp; with_reducible rfl)))
  (try simp only [List.getElem_toArray, List.getElem_cons_zero, List.getElem_cons_succ, Act.put, List.setIfInBounds_toArray, List.set_cons_zero, List.set_cons_succ])
  have r05 : Row w5 w.heap.size 26 #[.bool false, .int .u64 0, .int .u64 0] := (((show Row w2.drew _ _ _ from r0).on hbw3).on hbw4).on hbw5
  have r15 : Row w5 w1.heap.size 53 (shpA t) := (((show Row w2.drew _ _ _ from r1).on hbw3).on hbw4).on hbw5
  have hB5 : Below w.heap.size w w5 := by repeat (first | (with_reducible exact Below.refl _ _) | (with_reducible refine Below.drew ?_) | (refine Below.setCell ?_ (by first | exact Nat.le_refl _ | (simp; done) | (simp; omega) | omega) _) | (refine Below.alloc ?_ (by first | exact Nat.le_refl _ | (simp; done) | (simp; omega) | omega) _) | (refine Below.trans ?_ (Below.mono (by assumption) (by first | exact Nat.le_refl _ | (simp; done) | (simp; omega) | omega))))
  have g0 := r05.cell 0
  have g1 := r05.cell 1
  have g2 := r05.cell 2
  have i0 := r05.froz 0
  have i1 := r05.froz 1
  have i2 := r05.froz 2
  simp only [List.getElem?_toArray, List.getElem?_cons_zero, List.getElem?_cons_succ] at g0 g1 g2
  clear hcw3 hfw3 hcw4 hfw4 hcw5 hfw5 c0 c1 c2 f0 f1 f2 d0 d1 d2 d3 d4 hB2 hbw3 hbw4 hbw5
  refine wpAnyH_ready (rs := [10]) (by kernel_rfl) (by simp) (AllReadyH.cons rfl (fun K hK => ?_) AllReadyH.nil)
  go_simp
  refine hK.out _ _ (by have k0 := r15.cell 0; have k1 := r15.cell 1; have k2 := r15.cell 2; have k3 := r15.cell 3; have k4 := r15.cell 4; simp only [List.getElem?_toArray, List.getElem?_cons_zero, List.getElem?_cons_succ] at k0 k1 k2 k3 k4; refine ⟨?_, ?_, ?_, ?_, ?_⟩ <;> go_simp) (fun hHeld2 => ?_)
  clear hK K hHeld; have hHeld := hHeld2; clear hHeld2
  (try simp only [List.getElem_toArray, List.getElem_cons_zero, List.getElem_cons_succ, Act.put, List.setIfInBounds_toArray, List.set_cons_zero, List.set_cons_succ])
  refine wpAnyH_take (i := 11) (v := ?_) rfl (by kernel_rfl) (by kernel_rfl) (by kernel_rfl) (fun _ _ _ h => h) (Or.inl ⟨by rfl, ?_⟩) hHeld ?_
  rotate_left
  · (intro w0 hSw; (try dsimp only at hSw); (first | (go_simp; done) | (go_simp; with_reducible rfl)))
  (try simp only [List.getElem_toArray, List.getElem_cons_zero, List.getElem_cons_succ, Act.put, List.setIfInBounds_toArray, List.set_cons_zero, List.set_cons_succ])
  refine wpAnyH_done (by kernel_rfl) ?_ _
  clear hHeld
  have rq := ((r05.set 0 (.bool (negZ Z0))).set 1 (.int .u64 (hiN Z0.natAbs : Int))).set 2 (.int .u64 (loN Z0.natAbs : Int))
  simp only [List.setIfInBounds_toArray, List.set_cons_zero, List.set_cons_succ] at rq
  have rs : Row (((w5.setCell ⟨w.heap.size, 0, none⟩ (.bool (negZ Z0))).setCell ⟨w.heap.size, 1, none⟩ (.int .u64 (hiN Z0.natAbs : Int))).setCell ⟨w.heap.size, 2, none⟩ (.int .u64 (loN Z0.natAbs : Int))) w1.heap.size 53 (shpA t) := ((r15.far (by simp; omega) _).far (by simp; omega) _).far (by simp; omega) _
  have hBq : Below w.heap.size w (((w5.setCell ⟨w.heap.size, 0, none⟩ (.bool (negZ Z0))).setCell ⟨w.heap.size, 1, none⟩ (.int .u64 (hiN Z0.natAbs : Int))).setCell ⟨w.heap.size, 2, none⟩ (.int .u64 (loN Z0.natAbs : Int))) := by repeat (first | (with_reducible exact Below.refl _ _) | (with_reducible refine Below.drew ?_) | (refine Below.setCell ?_ (by first | exact Nat.le_refl _ | (simp; done) | (simp; omega) | omega) _) | (refine Below.alloc ?_ (by first | exact Nat.le_refl _ | (simp; done) | (simp; omega) | omega) _) | (refine Below.trans ?_ (Below.mono (by assumption) (by first | exact Nat.le_refl _ | (simp; done) | (simp; omega) | omega))))
  clear r05 r15 hB5 g0 g1 g2 i0 i1 i2
  generalize ((w5.setCell ⟨w.heap.size, 0, none⟩ (.bool (negZ Z0))).setCell ⟨w.heap.size, 1, none⟩ (.int .u64 (hiN Z0.natAbs : Int))).setCell ⟨w.heap.size, 2, none⟩ (.int .u64 (loN Z0.natAbs : Int)) = Q at *
  have hq0 := rq.lt
  have hq1 := rs.lt
  have s0 := rs.cell 0
  have s1' := rs.cell 1
  have s2' := rs.cell 2
  have s3' := rs.cell 3
  have s4' := rs.cell 4
  simp only [List.getElem?_toArray, List.getElem?_cons_zero, List.getElem?_cons_succ] at s0 s1' s2' s3' s4'
  go_wp2_with fail
  refine (C6.out _).mono ?_; rintro ew6 w6 ⟨rfl, hbw6⟩; obtain ⟨hcw6, hfw6⟩ := bcell hbw6; (try simp only [World.size_drew, World.cell?_drew, World.frozen?_drew] at hcw6 hfw6); have hzw6 := hbw6.size; (try simp at hzw6); have : w.heap.size < w6.heap.size := (by omega); have : w1.heap.size < w6.heap.size := (by omega); (try dsimp only)
  have rq6 := rq.on hbw6
  have hB6 : Below w.heap.size w w6 := by repeat (first | (with_reducible exact Below.refl _ _) | (with_reducible refine Below.drew ?_) | (refine Below.setCell ?_ (by first | exact Nat.le_refl _ | (simp; done) | (simp; omega) | omega) _) | (refine Below.alloc ?_ (by first | exact Nat.le_refl _ | (simp; done) | (simp; omega) | omega) _) | (refine Below.trans ?_ (Below.mono (by assumption) (by first | exact Nat.le_refl _ | (simp; done) | (simp; omega) | omega))))
  have q0 := rq6.cell 0
  have q1 := rq6.cell 1
  have q2 := rq6.cell 2
  have j0 := rq6.froz 0
  have j1 := rq6.froz 1
  have j2 := rq6.froz 2
  simp only [List.getElem?_toArray, List.getElem?_cons_zero, List.getElem?_cons_succ] at q0 q1 q2
  clear hcw6 hfw6 s0 s1' s2' s3' s4' hBq hbw6
  have kc := fun (w : World) (C : Array Value) (n c : Nat) => Lib.run_convert_bytes_const (P := Tryd.prog) w 22 5 C n c Tryd.underlying22 Tryd.underlying5
  go_wp2_with fail
  clear kc
  have B45 : BS (w6.alloc (.cells #[.int .u8 45] 5 (1, 2))) (.slice (some ⟨w6.heap.size, 0, none⟩) 1 1) [45] := bs_one w6 45 _ _
  refine (C7.out _ _ (by repeat (first | (with_reducible exact Below.refl _ _) | (with_reducible refine Below.drew ?_) | (refine Below.setCell ?_ (by first | exact Nat.le_refl _ | (simp; done) | (simp; omega) | omega) _) | (refine Below.alloc ?_ (by first | exact Nat.le_refl _ | (simp; done) | (simp; omega) | omega) _) | (refine Below.trans ?_ (Below.mono (by assumption) (by first | exact Nat.le_refl _ | (simp; done) | (simp; omega) | omega))))) B45).mono ?_
  rintro e w' ⟨rfl, rfl⟩
  cases sg
  · go_wp2
    have E : ZV Zr = ZV Z0 := by rw [HZ.out]; rfl
    rw [E]
    refine bodyPost_ret (v := .tuple #[ZV Z0, .int .i64 (N : Int), errV cc]) (by simp [results, Tryd.results10, go_sem, *]) rfl ⟨rfl, ?_⟩
    repeat (first | (with_reducible exact Below.refl _ _) | (with_reducible refine Below.drew ?_) | (refine Below.setCell ?_ (by first | exact Nat.le_refl _ | (simp; done) | (simp; omega) | omega) _) | (refine Below.alloc ?_ (by first | exact Nat.le_refl _ | (simp; done) | (simp; omega) | omega) _) | (refine Below.trans ?_ (Below.mono (by assumption) (by first | exact Nat.le_refl _ | (simp; done) | (simp; omega) | omega))))
  · have E : ZV Zr = ZV (-Z0) := by rw [HZ.out]; rfl
    go_wp2_with fail
    refine (C8.out _).mono ?_; rintro ew8 w8 ⟨rfl, hbw8⟩; obtain ⟨hcw8, hfw8⟩ := bcell hbw8; (try simp only [World.size_drew, World.cell?_drew, World.frozen?_drew] at hcw8 hfw8); have hzw8 := hbw8.size; (try simp at hzw8); have : w.heap.size < w8.heap.size := (by omega); (try dsimp only)
    have rq8 := (rq6.alloc _).on hbw8
    have hB8 : Below w.heap.size w w8 := by repeat (first | (with_reducible exact Below.refl _ _) | (with_reducible refine Below.drew ?_) | (refine Below.setCell ?_ (by first | exact Nat.le_refl _ | (simp; done) | (simp; omega) | omega) _) | (refine Below.alloc ?_ (by first | exact Nat.le_refl _ | (simp; done) | (simp; omega) | omega) _) | (refine Below.trans ?_ (Below.mono (by assumption) (by first | exact Nat.le_refl _ | (simp; done) | (simp; omega) | omega))))
    have m0 := rq8.cell 0
    have m1 := rq8.cell 1
    have m2 := rq8.cell 2
    have n0 := rq8.froz 0
    have n1 := rq8.froz 1
    have n2 := rq8.froz 2
    simp only [List.getElem?_toArray, List.getElem?_cons_zero, List.getElem?_cons_succ] at m0 m1 m2
    clear hcw8 hfw8 q0 q1 q2 j0 j1 j2
    go_upto_region 8 with fail
    have ru := ((rq8.set 0 (.bool (negZ (-Z0)))).set 1 (.int .u64 (hiN Z0.natAbs : Int))).set 2 (.int .u64 (loN Z0.natAbs : Int))
    simp only [List.setIfInBounds_toArray, List.set_cons_zero, List.set_cons_succ] at ru
    have hBu : Below w.heap.size w (((w8.setCell ⟨w.heap.size, 0, none⟩ (.bool (negZ (-Z0)))).setCell ⟨w.heap.size, 1, none⟩ (.int .u64 (hiN Z0.natAbs : Int))).setCell ⟨w.heap.size, 2, none⟩ (.int .u64 (loN Z0.natAbs : Int))) := by repeat (first | (with_reducible exact Below.refl _ _) | (with_reducible refine Below.drew ?_) | (refine Below.setCell ?_ (by first | exact Nat.le_refl _ | (simp; done) | (simp; omega) | omega) _) | (refine Below.alloc ?_ (by first | exact Nat.le_refl _ | (simp; done) | (simp; omega) | omega) _) | (refine Below.trans ?_ (Below.mono (by assumption) (by first | exact Nat.le_refl _ | (simp; done) | (simp; omega) | omega))))
    clear rq8 hB8 m0 m1 m2 n0 n1 n2
    generalize ((w8.setCell ⟨w.heap.size, 0, none⟩ (.bool (negZ (-Z0)))).setCell ⟨w.heap.size, 1, none⟩ (.int .u64 (hiN Z0.natAbs : Int))).setCell ⟨w.heap.size, 2, none⟩ (.int .u64 (loN Z0.natAbs : Int)) = U at *
    have m0 := ru.cell 0
    have m1 := ru.cell 1
    have m2 := ru.cell 2
    have n0 := ru.froz 0
    have n1 := ru.froz 1
    have n2 := ru.froz 2
    simp only [List.getElem?_toArray, List.getElem?_cons_zero, List.getElem?_cons_succ] at m0 m1 m2
    go_wp2
    have EN : (ZV (-Z0) : Value) = .agg #[.bool (negZ (-Z0)), .int .u64 (hiN Z0.natAbs : Int), .int .u64 (loN Z0.natAbs : Int)] := by unfold ZV; rw [Int.natAbs_neg]
    rw [E, EN]
    refine bodyPost_ret (v := .tuple #[.agg #[.bool (negZ (-Z0)), .int .u64 (hiN Z0.natAbs : Int), .int .u64 (loN Z0.natAbs : Int)], .int .i64 (N : Int), errV cc]) (by simp [results, Tryd.results10, go_sem, *]) rfl ⟨rfl, ?_⟩
    repeat (first | (with_reducible exact Below.refl _ _) | (with_reducible refine Below.drew ?_) | (refine Below.setCell ?_ (by first | exact Nat.le_refl _ | (simp; done) | (simp; omega) | omega) _) | (refine Below.alloc ?_ (by first | exact Nat.le_refl _ | (simp; done) | (simp; omega) | omega) _) | (refine Below.trans ?_ (Below.mono (by assumption) (by first | exact Nat.le_refl _ | (simp; done) | (simp; omega) | omega))))
theorem prefix_u {v : Value} {l : List UInt8} {w : World} (h : BS w v l) (hl : l.length ≤ 281474976710656) :
    Calls Tryd.prog 10 #[v] w fun e w' => e = .returned (.tuple #[ZV (fitZ (numZ l)), .int .i64 ((numN l : Nat) : Int), errV (fitC (numZ l).natAbs)]) ∧ Below w.heap.size w w' := by
  obtain ⟨p, c, rfl, hlc, hcm, hU⟩ := h
  have hm : (numZ l).natAbs = magN l := by unfold numZ; split <;> simp
  by_cases hN : numN l = 0
  · have hz : shp l = Shp.z := by
      obtain ⟨B, S, W, P, F, R, hp⟩ := parts_ex l
      by_cases h0 : W.length + F.length = 0
      · exact shp_none hp h0
      · have := hp.numN h0; omega
    rw [numZ_none hz, hN]
    have := prefix_none hU hlc hl hN
    rw [show fitZ 0 = 0 by decide, show fitC (0 : Int).natAbs = 0 by decide]
    exact this
  · rw [hm]
    exact prefix_some hU hlc hcm hl hN
end Go.Proofs.YtfecnogmjfmghaaDoor
