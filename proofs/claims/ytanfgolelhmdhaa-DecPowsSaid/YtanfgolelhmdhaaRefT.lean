/- The reference's Pow: the ways that end ahead of the loop. -/
import Derived.Test.YtanfgolelhmdhaaRefR
import Derived.Test.YtanfgolelhmdhaaRefK
import Derived.Test.YtanfgolelhmdhaaDecW
import Derived.Test.YtanfgolelhmdhaaDecSumsA
import Derived.Test.YtanfgolelhmdhaaDecTruncsM
namespace Go.Proofs.Ytanfgolelhmdhaa
set_option linter.unusedSimpArgs false
set_option linter.unusedVariables false
set_option linter.unnecessarySimpa false
open Go.RowKit

theorem isnum0 (W : World) : IsNum W (.agg #[.bool false, .slice none 0 0]) (negZ 0) (Int.natAbs 0) := by
  have h : IsNum W (.agg #[.bool false, .slice none 0 0]) false 0 := ⟨none, 0, by rw [dig_zero]; rfl, by rw [dig_zero]; exact Ints.nil _⟩
  exact h
set_option maxHeartbeats 4000000 in
theorem rpow_early {v v' : Value} {x y : Int} {w : World} (h : IsZ w v x) (h' : IsZ w v' y) (hx : x.natAbs < topN) (hy : y.natAbs < topN)
    (hc : ¬ (y = truncZ y ∧ ¬ (x = 0 ∧ negZ y = true) ∧ whB false (y.natAbs / 1000000) = true ∧ y.natAbs / 1000000 ≤ 1000)) :
    Calls Try.prog 31 #[v, v'] w (RetHeld (negZ (powR x y).1) (powR x y).1.natAbs (powR x y).2 w) := by
  obtain ⟨A, c, rfl, hI⟩ := h
  obtain ⟨A', c', rfl, hI'⟩ := h'
  have C1 : Hid (∀ W, Below w.heap.size w W → Calls Try.prog 38 #[.agg #[.bool (negZ y), .slice A' (dig y.natAbs).length c']] W (RetNum (negZ (truncZ y)) (truncZ y).natAbs W)) :=
    fun W hW => rtrunc_any ⟨A', c', rfl, hI'.on hW⟩ (top200 hy)
  have C2 : Hid (∀ W v1, Below w.heap.size w W → IsNum W v1 (negZ (truncZ y)) (truncZ y).natAbs → Calls Try.prog 37 #[v1, .agg #[.bool (negZ y), .slice A' (dig y.natAbs).length c']] W fun e w' => e = .returned (.bool (decide (truncZ y = y))) ∧ Below W.heap.size W w') := by
    intro W v1 hW h1
    have k := same_any (v' := .agg #[.bool (negZ y), .slice A' (dig y.natAbs).length c']) (n' := negZ y) (m' := y.natAbs) h1 ⟨A', c', rfl, hI'.on hW⟩ (top_len (trunc_top hy)) (top_len hy)
    rw [eqM_z] at k; exact k
  have C3 : Hid (∀ W, Below w.heap.size w W → Calls Try.prog 36 #[.agg #[.bool (negZ y), .slice A' (dig y.natAbs).length c']] W fun e w' => e = .returned (.tuple #[.int .i64 (whV (negZ y) (y.natAbs / 1000000)), .bool (whB (negZ y) (y.natAbs / 1000000))]) ∧ Below W.heap.size W w') :=
    fun W hW => rwhole_any ⟨A', c', rfl, hI'.on hW⟩ (top_len hy)
  have tx : (((((dig x.natAbs).length : Nat) : Int)) == 0) = decide (x = 0) := by rw [len0]; by_cases h : x = 0 <;> simp [h]
  clear hI hI' hx hy
  have Hc := Lib.hid hc
  clear hc
  generalize hty : truncZ y = ty at *
  generalize hq : y.natAbs / 1000000 = q at *
  generalize ty.natAbs = mt at *
  generalize negZ ty = nt at *
  generalize hpr : powR x y = pr at *
  generalize (dig x.natAbs).length = p at *
  generalize (dig y.natAbs).length = p' at *
  generalize negZ x = nx at *
  generalize hny : negZ y = ny at *
  go_enter Try.func31, Try.ntmps31
  go_upto_region 1 with fail
  refine wp_region_held_drew (S := fun w' => w'.cell? ⟨w.heap.size, 0, none⟩ = some (.bool nx) ∧ w'.cell? ⟨w.heap.size, 1, none⟩ = some (.slice A p c) ∧ w'.cell? ⟨w.heap.size + 1, 0, none⟩ = some (.bool ny) ∧ w'.cell? ⟨w.heap.size + 1, 1, none⟩ = some (.slice A' p' c')) (by kernel_rfl) (by (repeat' (with_reducible apply And.intro)) <;> go_simp) (fun hHeld => ?_)
  refine wpAnyH_take (i := 0) (v := ?_) rfl (by kernel_rfl) (by kernel_rfl) (by kernel_rfl) (fun _ _ _ h => h) (Or.inl ⟨by rfl, ?_⟩) hHeld ?_
  rotate_left
  · (intro w0 hSw; (try dsimp only at hSw); (first | (go_simp; done) | (go_simp; with_reducible rfl)))
  (try simp only [List.getElem_toArray, List.getElem_cons_zero, List.getElem_cons_succ, Act.put, List.setIfInBounds_toArray, List.set_cons_zero, List.set_cons_succ])
  refine wpAnyH_take (i := 2) (v := ?_) rfl (by kernel_rfl) (by kernel_rfl) (by kernel_rfl) (fun _ _ _ h => h) (Or.inl ⟨by rfl, ?_⟩) hHeld ?_
  rotate_left
  · (intro w0 hSw; (try dsimp only at hSw); (first | (go_simp; done) | (go_simp; with_reducible rfl)))
  (try simp only [List.getElem_toArray, List.getElem_cons_zero, List.getElem_cons_succ, Act.put, List.setIfInBounds_toArray, List.set_cons_zero, List.set_cons_succ])
  refine wpAnyH_ready (rs := [1]) (by kernel_rfl) (by simp) (AllReadyH.cons rfl (fun K hK => ?_) AllReadyH.nil)
  go_simp
  refine (C1.out _ ?_).mono ?_; (focus (repeat (first | (with_reducible exact Below.refl _ _) | (with_reducible refine Below.drew ?_) | (refine Below.setCell ?_ (by first | exact Nat.le_refl _ | (simp; done) | (simp; omega) | omega) _) | (refine Below.alloc ?_ (by first | exact Nat.le_refl _ | (simp; done) | (simp; omega) | omega) _) | (refine Below.trans ?_ (Below.mono (by assumption) (by first | exact Nat.le_refl _ | (simp; done) | (simp; omega) | omega)))))); rintro e w1 ⟨v1, rfl, hI1, hb1⟩; obtain ⟨hc1, hf1⟩ := bcell hb1; (try simp only [World.size_drew, World.cell?_drew, World.frozen?_drew] at hc1 hf1); have hz1 := hb1.size; (try simp at hz1); have hLr1 := ((Lies.fresh _ _ _)).drew.on hb1; (simp at hLr1); have : w.heap.size < w1.heap.size := (by omega); have : w.heap.size + 1 < w1.heap.size := (by omega); have : w.heap.size + 1 + 1 < w1.heap.size := (by omega); (try dsimp only)
  refine hK.out _ _ (by (repeat' (with_reducible apply And.intro)) <;> go_simp) (fun hHeld2 => ?_)
  clear hK K hHeld; have hHeld := hHeld2; clear hHeld2
  (try simp only [List.getElem_toArray, List.getElem_cons_zero, List.getElem_cons_succ, Act.put, List.setIfInBounds_toArray, List.set_cons_zero, List.set_cons_succ])
  refine wpAnyH_ready (rs := [3]) (by kernel_rfl) (by simp) (AllReadyH.cons rfl (fun K hK => ?_) AllReadyH.nil)
  go_simp
  refine (C2.out _ _ ?_ hI1).mono ?_; (focus (repeat (first | (with_reducible exact Below.refl _ _) | (with_reducible refine Below.drew ?_) | (refine Below.setCell ?_ (by first | exact Nat.le_refl _ | (simp; done) | (simp; omega) | omega) _) | (refine Below.alloc ?_ (by first | exact Nat.le_refl _ | (simp; done) | (simp; omega) | omega) _) | (refine Below.trans ?_ (Below.mono (by assumption) (by first | exact Nat.le_refl _ | (simp; done) | (simp; omega) | omega)))))); rintro e w2 ⟨rfl, hb2⟩; obtain ⟨hc2, hf2⟩ := bcell hb2; have hz2 := hb2.size; (try simp at hz2); have hLr2 := hLr1.on hb2; have : w.heap.size < w2.heap.size := (by omega); have : w.heap.size + 1 < w2.heap.size := (by omega); have : w.heap.size + 1 + 1 < w2.heap.size := (by omega); (try dsimp only)
  refine hK.out _ _ (by (repeat' (with_reducible apply And.intro)) <;> go_simp) (fun hHeld2 => ?_)
  clear hK K hHeld; have hHeld := hHeld2; clear hHeld2
  (try simp only [List.getElem_toArray, List.getElem_cons_zero, List.getElem_cons_succ, Act.put, List.setIfInBounds_toArray, List.set_cons_zero, List.set_cons_succ])
  refine wpAnyH_take (i := 4) (v := ?_) rfl (by kernel_rfl) (by kernel_rfl) (by kernel_rfl) (fun _ _ _ h => h) (Or.inl ⟨by rfl, ?_⟩) hHeld ?_
  rotate_left
  · (intro w0 hSw; (try dsimp only at hSw); (first | (go_simp; done) | (go_simp; with_reducible rfl)))
  (try simp only [List.getElem_toArray, List.getElem_cons_zero, List.getElem_cons_succ, Act.put, List.setIfInBounds_toArray, List.set_cons_zero, List.set_cons_succ])
  refine wpAnyH_done (by kernel_rfl) ?_ _
  obtain ⟨r0, r1, r2, r3⟩ := hLr2.cells2
  have HLr2 := Lib.hid hLr2
  have hB2 : Below w.heap.size w w2 := by repeat (first | (with_reducible exact Below.refl _ _) | (with_reducible refine Below.drew ?_) | (refine Below.setCell ?_ (by first | exact Nat.le_refl _ | (simp; done) | (simp; omega) | omega) _) | (refine Below.alloc ?_ (by first | exact Nat.le_refl _ | (simp; done) | (simp; omega) | omega) _) | (refine Below.trans ?_ (Below.mono (by assumption) (by first | exact Nat.le_refl _ | (simp; done) | (simp; omega) | omega))))
  have x0 : w2.cell? ⟨w.heap.size, 0, none⟩ = some (.bool nx) := by go_simp
  have x1 : w2.cell? ⟨w.heap.size, 1, none⟩ = some (.slice A p c) := by go_simp
  have y0 : w2.cell? ⟨w.heap.size + 1, 0, none⟩ = some (.bool ny) := by go_simp
  have y1 : w2.cell? ⟨w.heap.size + 1, 1, none⟩ = some (.slice A' p' c') := by go_simp
  clear hc1 hf1 hc2 hf2 hb1 hb2 hI1 hLr1 hLr2 hHeld
  by_cases hw : ty = y
  · rw [decide_eq_true hw]
    by_cases h3 : x = 0 ∧ ny = true
    · obtain rfl : pr = (0, 3) := by
        rw [← hpr]; unfold powR; simp only [hty, hq, hny]
        rw [if_pos hw.symm, if_pos h3]
      obtain ⟨hx0, hn⟩ := h3
      rw [decide_eq_true hx0] at tx
      clear hpr Hc
      subst hn
      go_wp2
      refine bodyPost_ret (v := .tuple #[.agg #[.bool false, .slice none 0 0], .int .i64 3]) (by simp [results, Try.results31, go_sem, *]) rfl ⟨_, rfl, isnum0 _, ?_⟩
      repeat (first | (with_reducible exact Below.refl _ _) | (with_reducible refine Below.drew ?_) | (refine Below.setCell ?_ (by first | exact Nat.le_refl _ | (simp; done) | (simp; omega) | omega) _) | (refine Below.alloc ?_ (by first | exact Nat.le_refl _ | (simp; done) | (simp; omega) | omega) _) | (refine Below.trans ?_ (Below.mono (by assumption) (by first | exact Nat.le_refl _ | (simp; done) | (simp; omega) | omega))))
    · obtain rfl : pr = (0, 2) := by
        rw [← hpr]; unfold powR; simp only [hty, hq, hny]
        rw [if_pos hw.symm, if_neg h3, if_neg (fun e => Hc.out ⟨hw.symm, h3, e.1, e.2⟩)]
      have F : whB ny q = false ∨ (whB ny q = true ∧ decide ((1000 : Int) < whV ny q) = true) ∨ (whB ny q = true ∧ decide ((1000 : Int) < whV ny q) = false ∧ decide (whV ny q < (-1000 : Int)) = true) := by
        have hc := Hc.out
        cases hb : whB ny q
        · exact .inl rfl
        · right
          have hq1 : 1000 < q := by
            apply Nat.lt_of_not_le
            intro hle
            exact hc ⟨hw.symm, h3, by unfold whB; simp; omega, hle⟩
          unfold whV
          rw [hb]
          cases ny <;> simp <;> omega
      have N : (x = 0 ∧ ny = false) ∨ x ≠ 0 := by
        by_cases hz : x = 0
        · left; refine ⟨hz, ?_⟩
          cases ny
          · rfl
          · exact absurd ⟨hz, rfl⟩ h3
        · exact .inr hz
      clear hpr Hc h3 hw hty hq hny
      generalize whB ny q = bw at *
      generalize whV ny q = vw at *
      have HB2 := Lib.hid hB2
      rcases N with ⟨hx0, hn⟩ | hx0
      · rw [decide_eq_true hx0] at tx
        subst hn
        clear hx0
        go_wp2_with fail
        refine (C3.out _ HB2.out).mono ?_
        rintro e w3 ⟨rfl, hb3⟩
        have hz3 := hb3.size
        have hLr3 := HLr2.out.on hb3
        obtain ⟨r0, r1, r2, r3⟩ := hLr3.cells2
        have hB3 : Below w.heap.size w w3 := by repeat (first | (with_reducible exact Below.refl _ _) | (with_reducible refine Below.drew ?_) | (refine Below.setCell ?_ (by first | exact Nat.le_refl _ | (simp; done) | (simp; omega) | omega) _) | (refine Below.alloc ?_ (by first | exact Nat.le_refl _ | (simp; done) | (simp; omega) | omega) _) | (refine Below.trans ?_ (Below.mono (by assumption) (by first | exact Nat.le_refl _ | (simp; done) | (simp; omega) | omega))))
        have : w.heap.size < w3.heap.size := by omega
        have : w.heap.size + 1 < w3.heap.size := by omega
        have : w.heap.size + 1 + 1 < w3.heap.size := by omega
        clear hLr3 hb3
        rcases F with rfl | ⟨rfl, f1⟩ | ⟨rfl, f1, f2⟩
        · go_wp2
          refine bodyPost_ret (v := .tuple #[.agg #[.bool false, .slice none 0 0], .int .i64 2]) (by simp [results, Try.results31, go_sem, *]) rfl ⟨_, rfl, isnum0 _, ?_⟩
          repeat (first | (with_reducible exact Below.refl _ _) | (with_reducible refine Below.drew ?_) | (refine Below.setCell ?_ (by first | exact Nat.le_refl _ | (simp; done) | (simp; omega) | omega) _) | (refine Below.alloc ?_ (by first | exact Nat.le_refl _ | (simp; done) | (simp; omega) | omega) _) | (refine Below.trans ?_ (Below.mono (by assumption) (by first | exact Nat.le_refl _ | (simp; done) | (simp; omega) | omega))))
        · go_wp2
          refine bodyPost_ret (v := .tuple #[.agg #[.bool false, .slice none 0 0], .int .i64 2]) (by simp [results, Try.results31, go_sem, *]) rfl ⟨_, rfl, isnum0 _, ?_⟩
          repeat (first | (with_reducible exact Below.refl _ _) | (with_reducible refine Below.drew ?_) | (refine Below.setCell ?_ (by first | exact Nat.le_refl _ | (simp; done) | (simp; omega) | omega) _) | (refine Below.alloc ?_ (by first | exact Nat.le_refl _ | (simp; done) | (simp; omega) | omega) _) | (refine Below.trans ?_ (Below.mono (by assumption) (by first | exact Nat.le_refl _ | (simp; done) | (simp; omega) | omega))))
        · go_wp2
          refine bodyPost_ret (v := .tuple #[.agg #[.bool false, .slice none 0 0], .int .i64 2]) (by simp [results, Try.results31, go_sem, *]) rfl ⟨_, rfl, isnum0 _, ?_⟩
          repeat (first | (with_reducible exact Below.refl _ _) | (with_reducible refine Below.drew ?_) | (refine Below.setCell ?_ (by first | exact Nat.le_refl _ | (simp; done) | (simp; omega) | omega) _) | (refine Below.alloc ?_ (by first | exact Nat.le_refl _ | (simp; done) | (simp; omega) | omega) _) | (refine Below.trans ?_ (Below.mono (by assumption) (by first | exact Nat.le_refl _ | (simp; done) | (simp; omega) | omega))))
      · rw [decide_eq_false hx0] at tx
        clear hx0
        go_wp2_with fail
        refine (C3.out _ HB2.out).mono ?_
        rintro e w3 ⟨rfl, hb3⟩
        have hz3 := hb3.size
        have hLr3 := HLr2.out.on hb3
        obtain ⟨r0, r1, r2, r3⟩ := hLr3.cells2
        have hB3 : Below w.heap.size w w3 := by repeat (first | (with_reducible exact Below.refl _ _) | (with_reducible refine Below.drew ?_) | (refine Below.setCell ?_ (by first | exact Nat.le_refl _ | (simp; done) | (simp; omega) | omega) _) | (refine Below.alloc ?_ (by first | exact Nat.le_refl _ | (simp; done) | (simp; omega) | omega) _) | (refine Below.trans ?_ (Below.mono (by assumption) (by first | exact Nat.le_refl _ | (simp; done) | (simp; omega) | omega))))
        have : w.heap.size < w3.heap.size := by omega
        have : w.heap.size + 1 < w3.heap.size := by omega
        have : w.heap.size + 1 + 1 < w3.heap.size := by omega
        clear hLr3 hb3
        rcases F with rfl | ⟨rfl, f1⟩ | ⟨rfl, f1, f2⟩
        · go_wp2
          refine bodyPost_ret (v := .tuple #[.agg #[.bool false, .slice none 0 0], .int .i64 2]) (by simp [results, Try.results31, go_sem, *]) rfl ⟨_, rfl, isnum0 _, ?_⟩
          repeat (first | (with_reducible exact Below.refl _ _) | (with_reducible refine Below.drew ?_) | (refine Below.setCell ?_ (by first | exact Nat.le_refl _ | (simp; done) | (simp; omega) | omega) _) | (refine Below.alloc ?_ (by first | exact Nat.le_refl _ | (simp; done) | (simp; omega) | omega) _) | (refine Below.trans ?_ (Below.mono (by assumption) (by first | exact Nat.le_refl _ | (simp; done) | (simp; omega) | omega))))
        · go_wp2
          refine bodyPost_ret (v := .tuple #[.agg #[.bool false, .slice none 0 0], .int .i64 2]) (by simp [results, Try.results31, go_sem, *]) rfl ⟨_, rfl, isnum0 _, ?_⟩
          repeat (first | (with_reducible exact Below.refl _ _) | (with_reducible refine Below.drew ?_) | (refine Below.setCell ?_ (by first | exact Nat.le_refl _ | (simp; done) | (simp; omega) | omega) _) | (refine Below.alloc ?_ (by first | exact Nat.le_refl _ | (simp; done) | (simp; omega) | omega) _) | (refine Below.trans ?_ (Below.mono (by assumption) (by first | exact Nat.le_refl _ | (simp; done) | (simp; omega) | omega))))
        · go_wp2
          refine bodyPost_ret (v := .tuple #[.agg #[.bool false, .slice none 0 0], .int .i64 2]) (by simp [results, Try.results31, go_sem, *]) rfl ⟨_, rfl, isnum0 _, ?_⟩
          repeat (first | (with_reducible exact Below.refl _ _) | (with_reducible refine Below.drew ?_) | (refine Below.setCell ?_ (by first | exact Nat.le_refl _ | (simp; done) | (simp; omega) | omega) _) | (refine Below.alloc ?_ (by first | exact Nat.le_refl _ | (simp; done) | (simp; omega) | omega) _) | (refine Below.trans ?_ (Below.mono (by assumption) (by first | exact Nat.le_refl _ | (simp; done) | (simp; omega) | omega))))
  · obtain rfl : pr = (0, 1) := by
      rw [← hpr]; unfold powR; simp only [hty, hq, hny]
      rw [if_neg (fun e => hw e.symm)]
    rw [decide_eq_false hw]
    clear hpr Hc
    go_wp2
    refine bodyPost_ret (v := .tuple #[.agg #[.bool false, .slice none 0 0], .int .i64 1]) (by simp [results, Try.results31, go_sem, *]) rfl ⟨_, rfl, isnum0 _, ?_⟩
    repeat (first | (with_reducible exact Below.refl _ _) | (with_reducible refine Below.drew ?_) | (refine Below.setCell ?_ (by first | exact Nat.le_refl _ | (simp; done) | (simp; omega) | omega) _) | (refine Below.alloc ?_ (by first | exact Nat.le_refl _ | (simp; done) | (simp; omega) | omega) _) | (refine Below.trans ?_ (Below.mono (by assumption) (by first | exact Nat.le_refl _ | (simp; done) | (simp; omega) | omega))))
end Go.Proofs.Ytanfgolelhmdhaa
