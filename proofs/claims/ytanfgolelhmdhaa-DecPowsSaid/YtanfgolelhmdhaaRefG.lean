/- The contracts of the reference's Neg, Add, Cmp, on whole numbers of millionths. -/
import Derived.Test.YtanfgolelhmdhaaRefD
import Derived.Test.YtanfgolelhmdhaaRefF
import Derived.Test.YtanfgolelhmdhaaDecP
namespace Go.Proofs.Ytanfgolelhmdhaa
set_option linter.unusedSimpArgs false
set_option linter.unusedVariables false
set_option linter.unnecessarySimpa false
open Go.RowKit

/-- A number of the reference that is the whole number z. -/
abbrev IsZ (w : World) (v : Value) (z : Int) : Prop := IsNum w v (negZ z) z.natAbs
theorem signB_z {z : Int} {m : Nat} {neg : Bool} (hm : m = z.natAbs) (hn : m ≠ 0 → neg = negZ z) : signB neg m = negZ z := by
  subst hm
  unfold signB
  by_cases h0 : z.natAbs = 0
  · have : z = 0 := by omega
    subst this; simp [negZ]
  · rw [hn h0]; simp [h0]
theorem heldN_z (z : Int) : heldN (negZ z) z.natAbs = negZ (fitZ z) := by
  unfold heldN fitZ
  by_cases h : z.natAbs < topN <;> simp [h]
  rfl
theorem fitQ_z (z : Int) : fitQ z.natAbs = (fitZ z).natAbs := by
  unfold fitQ fitZ
  by_cases h : z.natAbs < topN <;> simp [h]

theorem rneg_any {v : Value} {z : Int} {w : World} (h : IsZ w v z) (hl : (dig z.natAbs).length ≤ 1000) :
    Calls Try.prog 21 #[v] w (RetNum (negZ (-z)) (-z).natAbs w) := by
  obtain ⟨A, c, rfl, hI⟩ := h
  have hz : signB (!negZ z) z.natAbs = negZ (-z) := by
    apply signB_z (by rw [Int.natAbs_neg])
    intro h0
    unfold negZ
    by_cases h1 : z < 0
    · simp [h1]; omega
    · simp [h1]; omega
  have hm : (-z).natAbs = z.natAbs := Int.natAbs_neg z
  have C : Hid (∀ W, Below w.heap.size w W → Calls Try.prog 48 #[.bool (!negZ z), .slice A (dig z.natAbs).length c] W (RetNum (negZ (-z)) (-z).natAbs W)) := by
    intro W hW
    rw [← hz, hm]
    exact rsigned_any (hI.on hW) hl
  clear hI hz hm
  generalize negZ (-z) = n' at *
  generalize (-z).natAbs = m' at *
  go_enter Try.func21, Try.ntmps21
  go_wp2_with fail
  refine (C.out _ (by repeat (first | (with_reducible exact Below.refl _ _) | (with_reducible refine Below.drew ?_) | (refine Below.setCell ?_ (by first | exact Nat.le_refl _ | (simp; done) | (simp; omega) | omega) _) | (refine Below.alloc ?_ (by first | exact Nat.le_refl _ | (simp; done) | (simp; omega) | omega) _) | (refine Below.trans ?_ (Below.mono (by assumption) (by first | exact Nat.le_refl _ | (simp; done) | (simp; omega) | omega)))))).mono ?_
  rintro e w1 ⟨v1, rfl, ⟨A1, c1, rfl, hI1⟩, hb1⟩
  obtain ⟨hc1, hf1⟩ := bcell hb1
  have hz1 := hb1.size; (try simp at hz1)
  have : w.heap.size < w1.heap.size := by omega
  have : w.heap.size + 1 < w1.heap.size := by omega
  have hL := (Lies.fresh (w.alloc (.cells #[.bool (negZ z), .slice A (dig z.natAbs).length c] 35)) 35 #[.bool false, .slice none 0 0]).on hb1
  have HL := Lib.hid hL
  clear hL
  go_wp2
  refine bodyPost_ret (v := .agg #[.bool n', .slice A1 (dig m').length c1]) (by simp [results, Try.results21, go_sem, *]) rfl ⟨_, rfl, ⟨A1, c1, rfl, ?_⟩, ?_⟩
  · have hL := HL.out
    rw [show (w.alloc (.cells #[.bool (negZ z), .slice A (dig z.natAbs).length c] 35)).heap.size = w.heap.size + 1 from by simp] at hL
    exact (hI1.far hL (by decide) 0 _).far (hL.put 0 _) (by decide) 1 _
  · repeat (first | (with_reducible exact Below.refl _ _) | (with_reducible refine Below.drew ?_) | (refine Below.setCell ?_ (by first | exact Nat.le_refl _ | (simp; done) | (simp; omega) | omega) _) | (refine Below.alloc ?_ (by first | exact Nat.le_refl _ | (simp; done) | (simp; omega) | omega) _) | (refine Below.trans ?_ (Below.mono (by assumption) (by first | exact Nat.le_refl _ | (simp; done) | (simp; omega) | omega))))

set_option maxHeartbeats 2000000 in
theorem radd_same {v v' : Value} {x y : Int} {w : World} (h : IsZ w v x) (h' : IsZ w v' y) (hs : negZ x = negZ y) (hl : x.natAbs < 10 ^ 200) (hl' : y.natAbs < 10 ^ 200) :
    Calls Try.prog 20 #[v, v'] w (RetHeld (negZ (fitZ (x + y))) (fitZ (x + y)).natAbs (fitC (x + y).natAbs) w) := by
  obtain ⟨A, c, rfl, hI⟩ := h
  obtain ⟨A', c', rfl, hI'⟩ := h'
  have hm : x.natAbs + y.natAbs = (x + y).natAbs := by unfold negZ at hs; rw [decide_eq_decide] at hs; omega
  have hz : signB (negZ x) (x.natAbs + y.natAbs) = negZ (x + y) := by
    apply signB_z hm
    intro h0
    unfold negZ at hs ⊢
    rw [decide_eq_decide] at hs ⊢; omega
  have hlen : (dig (x + y).natAbs).length ≤ 1000 := Nat.le_trans (dig_len_le (k := 201) (by rw [← hm, Nat.pow_succ]; omega)) (by omega)
  have d1 : (dig x.natAbs).length ≤ 900 := dig_short hl (by omega)
  have d2 : (dig y.natAbs).length ≤ 900 := dig_short hl' (by omega)
  have C1 : Hid (∀ W, Below w.heap.size w W → Calls Try.prog 49 #[.slice A (dig x.natAbs).length c, .slice A' (dig y.natAbs).length c'] W (RetInts (x + y).natAbs W)) := by
    intro W hW
    rw [← hm]
    exact plus_any (hI.on hW) (hI'.on hW) d1 d2
  have C2 : Hid (∀ W A c, Ints W A c (dig (x + y).natAbs) → Calls Try.prog 48 #[.bool (negZ x), .slice A (dig (x + y).natAbs).length c] W (RetNum (negZ (x + y)) (x + y).natAbs W)) := by
    intro W A c hA
    rw [← hz, hm]
    exact rsigned_any hA hlen
  have C3 : Hid (∀ W v, IsNum W v (negZ (x + y)) (x + y).natAbs → Calls Try.prog 52 #[v] W (RetHeld (negZ (fitZ (x + y))) (fitZ (x + y)).natAbs (fitC (x + y).natAbs) W)) := by
    intro W v hv
    rw [← heldN_z, ← fitQ_z]
    exact rheld_any hv
  have hn : (negZ x == negZ y) = true := by simp [hs]
  clear hI hI' hm hz hlen d1 d2 hl hl' hs
  generalize negZ (fitZ (x + y)) = n3 at *
  generalize (fitZ (x + y)).natAbs = m3 at *
  generalize fitC (x + y).natAbs = k3 at *
  generalize negZ (x + y) = n2 at *
  generalize (x + y).natAbs = m2 at *
  generalize (dig x.natAbs).length = p at *
  generalize (dig y.natAbs).length = q at *
  generalize negZ x = nx at *
  generalize negZ y = ny at *
  go_enter Try.func20, Try.ntmps20
  go_wp2
  refine wp_region_held_drew (S := fun w' => w'.cell? ⟨w.heap.size, 0, none⟩ = some (.bool nx) ∧ w'.cell? ⟨w.heap.size, 1, none⟩ = some (.slice A p c) ∧ w'.cell? ⟨w.heap.size + 1, 0, none⟩ = some (.bool ny) ∧ w'.cell? ⟨w.heap.size + 1, 1, none⟩ = some (.slice A' q c')) (by kernel_rfl) (by (repeat' (with_reducible apply And.intro)) <;> go_simp) (fun hHeld => ?_)
  refine wpAnyH_take (i := 0) (v := ?_) rfl (by kernel_rfl) (by kernel_rfl) (by kernel_rfl) (fun _ _ _ h => h) (Or.inl ⟨by rfl, ?_⟩) hHeld ?_
  rotate_left
  · (intro w0 hSw; (try dsimp only at hSw); (first | (go_simp; done) | (go_simp; with_reducible rfl)))
  (try simp only [List.getElem_toArray, List.getElem_cons_zero, List.getElem_cons_succ, Act.put, List.setIfInBounds_toArray, List.set_cons_zero, List.set_cons_succ])
  refine wpAnyH_take (i := 1) (v := ?_) rfl (by kernel_rfl) (by kernel_rfl) (by kernel_rfl) (fun _ _ _ h => h) (Or.inl ⟨by rfl, ?_⟩) hHeld ?_
  rotate_left
  · (intro w0 hSw; (try dsimp only at hSw); (first | (go_simp; done) | (go_simp; with_reducible rfl)))
  (try simp only [List.getElem_toArray, List.getElem_cons_zero, List.getElem_cons_succ, Act.put, List.setIfInBounds_toArray, List.set_cons_zero, List.set_cons_succ])
  refine wpAnyH_take (i := 2) (v := ?_) rfl (by kernel_rfl) (by kernel_rfl) (by kernel_rfl) (fun _ _ _ h => h) (Or.inl ⟨by rfl, ?_⟩) hHeld ?_
  rotate_left
  · (intro w0 hSw; (try dsimp only at hSw); (first | (go_simp; done) | (go_simp; with_reducible rfl)))
  (try simp only [List.getElem_toArray, List.getElem_cons_zero, List.getElem_cons_succ, Act.put, List.setIfInBounds_toArray, List.set_cons_zero, List.set_cons_succ])
  refine wpAnyH_take (i := 3) (v := ?_) rfl (by kernel_rfl) (by kernel_rfl) (by kernel_rfl) (fun _ _ _ h => h) (Or.inl ⟨by rfl, ?_⟩) hHeld ?_
  rotate_left
  · (intro w0 hSw; (try dsimp only at hSw); (first | (go_simp; done) | (go_simp; with_reducible rfl)))
  (try simp only [List.getElem_toArray, List.getElem_cons_zero, List.getElem_cons_succ, Act.put, List.setIfInBounds_toArray, List.set_cons_zero, List.set_cons_succ])
  refine wpAnyH_take (i := 4) (v := ?_) rfl (by kernel_rfl) (by kernel_rfl) (by kernel_rfl) (fun _ _ _ h => h) (Or.inl ⟨by rfl, ?_⟩) hHeld ?_
  rotate_left
  · (intro w0 hSw; (try dsimp only at hSw); (first | (go_simp; done) | (go_simp; with_reducible rfl)))
  (try simp only [List.getElem_toArray, List.getElem_cons_zero, List.getElem_cons_succ, Act.put, List.setIfInBounds_toArray, List.set_cons_zero, List.set_cons_succ])
  refine wpAnyH_take (i := 5) (v := ?_) rfl (by kernel_rfl) (by kernel_rfl) (by kernel_rfl) (fun _ _ _ h => h) (Or.inl ⟨by rfl, ?_⟩) hHeld ?_
  rotate_left
  · (intro w0 hSw; (try dsimp only at hSw); (first | (go_simp; done) | (go_simp; with_reducible rfl)))
  (try simp only [List.getElem_toArray, List.getElem_cons_zero, List.getElem_cons_succ, Act.put, List.setIfInBounds_toArray, List.set_cons_zero, List.set_cons_succ])
  refine wpAnyH_ready (rs := [6]) (by kernel_rfl) (by simp) (AllReadyH.cons rfl (fun K hK => ?_) AllReadyH.nil)
  go_simp
  refine (C1.out _ ?_).mono ?_; (focus (repeat (first | (with_reducible exact Below.refl _ _) | (with_reducible refine Below.drew ?_) | (refine Below.setCell ?_ (by first | exact Nat.le_refl _ | (simp; done) | (simp; omega) | omega) _) | (refine Below.alloc ?_ (by first | exact Nat.le_refl _ | (simp; done) | (simp; omega) | omega) _) | (refine Below.trans ?_ (Below.mono (by assumption) (by first | exact Nat.le_refl _ | (simp; done) | (simp; omega) | omega)))))); rintro e w1 ⟨A1, c1, rfl, hI1, hb1⟩; obtain ⟨hc1, hf1⟩ := bcell hb1; (try simp only [World.size_drew, World.cell?_drew, World.frozen?_drew] at hc1 hf1); have hz1 := hb1.size; (try simp at hz1); have hLx1 := (Lies.fresh _ _ _).drew.on hb1; have hLr1 := ((Lies.fresh _ _ _).alloc _).drew.on hb1; (simp at hLx1 hLr1); have : w.heap.size < w1.heap.size := (by omega); have : w.heap.size + 1 < w1.heap.size := (by omega); have : w.heap.size + 1 + 1 < w1.heap.size := (by omega); have : w.heap.size + 1 + 1 + 1 < w1.heap.size := (by omega); (try dsimp only)
  refine hK.out _ _ (by (repeat' (with_reducible apply And.intro)) <;> go_simp) (fun hHeld2 => ?_)
  clear hK K hHeld; have hHeld := hHeld2; clear hHeld2
  (try simp only [List.getElem_toArray, List.getElem_cons_zero, List.getElem_cons_succ, Act.put, List.setIfInBounds_toArray, List.set_cons_zero, List.set_cons_succ])
  refine wpAnyH_ready (rs := [7]) (by kernel_rfl) (by simp) (AllReadyH.cons rfl (fun K hK => ?_) AllReadyH.nil)
  go_simp
  refine (C2.out _ _ _ hI1).mono ?_; rintro e w2 ⟨v2, rfl, ⟨A2, c2, rfl, hI2⟩, hb2⟩; obtain ⟨hc2, hf2⟩ := bcell hb2; have hz2 := hb2.size; (try simp at hz2); have hLx2 := hLx1.on hb2; have hLr2 := hLr1.on hb2; have : w.heap.size < w2.heap.size := (by omega); have : w.heap.size + 1 < w2.heap.size := (by omega); have : w.heap.size + 1 + 1 < w2.heap.size := (by omega); have : w.heap.size + 1 + 1 + 1 < w2.heap.size := (by omega); (try dsimp only)
  refine hK.out _ _ (by (repeat' (with_reducible apply And.intro)) <;> go_simp) (fun hHeld2 => ?_)
  clear hK K hHeld; have hHeld := hHeld2; clear hHeld2
  (try simp only [List.getElem_toArray, List.getElem_cons_zero, List.getElem_cons_succ, Act.put, List.setIfInBounds_toArray, List.set_cons_zero, List.set_cons_succ])
  refine wpAnyH_ready (rs := [8]) (by kernel_rfl) (by simp) (AllReadyH.cons rfl (fun K hK => ?_) AllReadyH.nil)
  go_simp
  refine hK.out _ _ (by (repeat' (with_reducible apply And.intro)) <;> go_simp) (fun hHeld2 => ?_)
  clear hK K hHeld; have hHeld := hHeld2; clear hHeld2
  (try simp only [List.getElem_toArray, List.getElem_cons_zero, List.getElem_cons_succ, Act.put, List.setIfInBounds_toArray, List.set_cons_zero, List.set_cons_succ])
  refine wpAnyH_done (by kernel_rfl) ?_ _
  clear hHeld
  go_wp2_with fail
  have hI3 := (hI2.far hLx2 (by decide) 0 (.bool n2)).far (hLx2.put 0 (.bool n2)) (by decide) 1 (.slice A2 (dig m2).length c2)
  have hLr3 := (hLr2.far (p := ⟨w.heap.size + 1 + 1 + 1, 0, none⟩) (by simp) (.bool n2)).far (p := ⟨w.heap.size + 1 + 1 + 1, 1, none⟩) (by simp) (.slice A2 (dig m2).length c2)
  have hB2 : Below w.heap.size w w2 := by repeat (first | (with_reducible exact Below.refl _ _) | (with_reducible refine Below.drew ?_) | (refine Below.setCell ?_ (by first | exact Nat.le_refl _ | (simp; done) | (simp; omega) | omega) _) | (refine Below.alloc ?_ (by first | exact Nat.le_refl _ | (simp; done) | (simp; omega) | omega) _) | (refine Below.trans ?_ (Below.mono (by assumption) (by first | exact Nat.le_refl _ | (simp; done) | (simp; omega) | omega))))
  have HI2 := Lib.hid hI2
  have HLr2 := Lib.hid hLr2
  have HLx2 := Lib.hid hLx2
  clear hI1 hI2 hLx1 hLx2 hLr1 hLr2
  refine (C3.out _ _ ⟨A2, c2, rfl, hI3⟩).mono ?_
  rintro e w3 ⟨v3, rfl, ⟨A3, c3, rfl, hI4⟩, hb3⟩
  obtain ⟨hc3, hf3⟩ := bcell hb3
  have hz3 := hb3.size; (try simp at hz3)
  have : w.heap.size < w3.heap.size := by omega
  have : w.heap.size + 1 < w3.heap.size := by omega
  have : w.heap.size + 1 + 1 < w3.heap.size := by omega
  have hLr4 := hLr3.on hb3
  have hB3 : Below w.heap.size w w3 := by repeat (first | (with_reducible exact Below.refl _ _) | (with_reducible refine Below.drew ?_) | (refine Below.setCell ?_ (by first | exact Nat.le_refl _ | (simp; done) | (simp; omega) | omega) _) | (refine Below.alloc ?_ (by first | exact Nat.le_refl _ | (simp; done) | (simp; omega) | omega) _) | (refine Below.trans ?_ (Below.mono (by assumption) (by first | exact Nat.le_refl _ | (simp; done) | (simp; omega) | omega))))
  obtain ⟨r0, r1, r2, r3⟩ := hLr4.cells2
  have HL4 := Lib.hid hLr4
  have HI4 := Lib.hid hI4
  clear hI3 hLr3 hI4 hLr4 hb1 hc1 hf1 hb2 hc2 hf2 hb3 hc3 hf3
  go_wp2
  refine bodyPost_ret (v := .tuple #[.agg #[.bool n3, .slice A3 (dig m3).length c3], .int .i64 (k3 : Int)]) (by simp [results, Try.results20, go_sem, *]) rfl ⟨_, rfl, ⟨A3, c3, rfl, ?_⟩, ?_⟩
  · exact (HI4.out.far HL4.out (by decide) 0 _).far (HL4.out.put 0 _) (by decide) 1 _
  · repeat (first | (with_reducible exact Below.refl _ _) | (with_reducible refine Below.drew ?_) | (refine Below.setCell ?_ (by first | exact Nat.le_refl _ | (simp; done) | (simp; omega) | omega) _) | (refine Below.alloc ?_ (by first | exact Nat.le_refl _ | (simp; done) | (simp; omega) | omega) _) | (refine Below.trans ?_ (Below.mono (by assumption) (by first | exact Nat.le_refl _ | (simp; done) | (simp; omega) | omega))))
end Go.Proofs.Ytanfgolelhmdhaa
