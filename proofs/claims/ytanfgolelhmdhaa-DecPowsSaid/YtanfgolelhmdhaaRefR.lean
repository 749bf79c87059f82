/- The reference's Div. -/
import Derived.Test.YtanfgolelhmdhaaRefQ
namespace Go.Proofs.Ytanfgolelhmdhaa
set_option linter.unusedSimpArgs false
set_option linter.unusedVariables false
set_option linter.unnecessarySimpa false
open Go.RowKit

theorem dig_million : dig 1000000 = [0, 0, 0, 0, 0, 0, 1] := by
  have h := dig_unique (l := [0, 0, 0, 0, 0, 0, 1]) (fun x hx => by simp at hx; omega) (fun _ => by decide)
  rw [h]; rfl
theorem ints_million {w : World} {b : Nat} (h : w.heap[b]? = some (.cells #[.int .i64 0, .int .i64 0, .int .i64 0, .int .i64 0, .int .i64 0, .int .i64 0, .int .i64 1] 3 (0, 0))) :
    Ints w (some ⟨b, 0, none⟩) 7 (dig 1000000) := by
  rw [dig_million]
  refine ⟨by decide, by decide, fun _ => ⟨b, 0, _, rfl, h, ?_⟩⟩
  intro j hj
  match j, hj with
  | 0, _ => rfl
  | 1, _ => rfl
  | 2, _ => rfl
  | 3, _ => rfl
  | 4, _ => rfl
  | 5, _ => rfl
  | 6, _ => rfl
set_option maxHeartbeats 4000000 in
theorem rdiv_z {v v' : Value} {x y : Int} {w : World} (h : IsZ w v x) (h' : IsZ w v' y) (hl : (dig x.natAbs).length ≤ 300) (hl' : (dig y.natAbs).length ≤ 300) (h0 : y ≠ 0) :
    Calls Try.prog 28 #[v, v'] w (RetHeld (negZ (fitZ ((x * 1000000).tdiv y))) (fitZ ((x * 1000000).tdiv y)).natAbs (fitC ((x * 1000000).tdiv y).natAbs) w) := by
  obtain ⟨A, c, rfl, hI⟩ := h
  obtain ⟨A', c', rfl, hI'⟩ := h'
  have hm : x.natAbs * 1000000 / y.natAbs = ((x * 1000000).tdiv y).natAbs := (div_abs x y).symm
  have hz : signB (negZ x != negZ y) (x.natAbs * 1000000 / y.natAbs) = negZ ((x * 1000000).tdiv y) := signB_z hm div_sgn
  have l7 : (dig 1000000).length = 7 := by rw [dig_million]; rfl
  have hlen : (dig (x.natAbs * 1000000)).length ≤ 600 := Nat.le_trans (mul_len hl (Nat.le_of_eq l7) (Nat.le_refl _)) (by omega)
  have hlen2 : (dig (x.natAbs * 1000000 / y.natAbs)).length ≤ 1000 := Nat.le_trans (mul_len hl (Nat.le_of_eq l7) (Nat.div_le_self _ _)) (by omega)
  have C1 : Hid (∀ W A2, Below w.heap.size w W → Ints W A2 7 (dig 1000000) → Calls Try.prog 58 #[.slice A (dig x.natAbs).length c, .slice A2 7 7] W (RetInts (x.natAbs * 1000000) W)) := by
    intro W A2 hW hA
    have k := times_any (hI.on hW) hA hl (by rw [l7]; omega)
    rw [l7] at k
    exact k
  have C2 : Hid (∀ W A c, Below w.heap.size w W → Ints W A c (dig (x.natAbs * 1000000)) → Calls Try.prog 59 #[.slice A (dig (x.natAbs * 1000000)).length c, .slice A' (dig y.natAbs).length c'] W (RetTwo (x.natAbs * 1000000 / y.natAbs) (x.natAbs * 1000000 % y.natAbs) W)) :=
    fun W A c hW hA => over_any hA (hI'.on hW) hlen hl' (by omega)
  have C4 : Hid (∀ W A c, Ints W A c (dig (x.natAbs * 1000000 / y.natAbs)) → Calls Try.prog 48 #[.bool (negZ x != negZ y), .slice A (dig (x.natAbs * 1000000 / y.natAbs)).length c] W (RetNum (negZ ((x * 1000000).tdiv y)) ((x * 1000000).tdiv y).natAbs W)) := by
    intro W A c hA
    rw [← hz, ← hm]
    exact rsigned_any hA hlen2
  have C5 : Hid (∀ W v, IsNum W v (negZ ((x * 1000000).tdiv y)) ((x * 1000000).tdiv y).natAbs → Calls Try.prog 52 #[v] W (RetHeld (negZ (fitZ ((x * 1000000).tdiv y))) (fitZ ((x * 1000000).tdiv y)).natAbs (fitC ((x * 1000000).tdiv y).natAbs) W)) := by
    intro W v hv
    rw [← heldN_z, ← fitQ_z]
    exact rheld_any hv
  have HM : Hid (∀ (W : World) (b : Nat), b = W.heap.size → Ints (W.alloc (.cells #[.int .i64 0, .int .i64 0, .int .i64 0, .int .i64 0, .int .i64 0, .int .i64 0, .int .i64 1] 3)).drew (some ⟨b, 0, none⟩) 7 (dig 1000000)) := by
    intro W b h
    subst h
    exact ints_million (Lies.fresh W _ _).drew
  have tq := dig_some h0
  clear hI hI' hm hz hlen hlen2 hl hl' h0
  generalize (x * 1000000).tdiv y = z at *
  generalize negZ (fitZ z) = n3 at *
  generalize (fitZ z).natAbs = m3 at *
  generalize fitC z.natAbs = k3 at *
  generalize negZ z = n2 at *
  generalize z.natAbs = m2 at *
  generalize x.natAbs * 1000000 % y.natAbs = mr at *
  generalize x.natAbs * 1000000 / y.natAbs = mq at *
  generalize x.natAbs * 1000000 = mp at *
  generalize (dig x.natAbs).length = p at *
  generalize (dig y.natAbs).length = q at *
  generalize negZ x = nx at *
  generalize negZ y = ny at *
  generalize dig 1000000 = l6 at *
  go_enter Try.func28, Try.ntmps28
  go_wp2
  refine wp_region_held_drew (S := fun w' => w'.cell? ⟨w.heap.size, 0, none⟩ = some (.bool nx) ∧ w'.cell? ⟨w.heap.size, 1, none⟩ = some (.slice A p c) ∧ w'.cell? ⟨w.heap.size + 1, 0, none⟩ = some (.bool ny) ∧ w'.cell? ⟨w.heap.size + 1, 1, none⟩ = some (.slice A' q c')) (by kernel_rfl) (by (repeat' (with_reducible apply And.intro)) <;> go_simp) (fun hHeld => ?_)
  refine wpAnyH_take (i := 0) (v := ?_) rfl (by kernel_rfl) (by kernel_rfl) (by kernel_rfl) (fun _ _ _ h => h) (Or.inl ⟨by rfl, ?_⟩) hHeld ?_
  rotate_left
  · (intro w0 hSw; (try dsimp only at hSw); (first | (go_simp; done) | (go_simp; with_reducible rfl)))
  (try simp only [List.getElem_toArray, List.getElem_cons_zero, List.getElem_cons_succ, Act.put, List.setIfInBounds_toArray, List.set_cons_zero, List.set_cons_succ])
  refine wpAnyH_take (i := 1) (v := ?_) rfl (by kernel_rfl) (by kernel_rfl) (by kernel_rfl) (fun _ _ _ h => h) (Or.inl ⟨by rfl, ?_⟩) hHeld ?_
  rotate_left
  · (intro w0 hSw; (try dsimp only at hSw); (first | (go_simp; done) | (go_simp; with_reducible rfl)))
  (try simp only [List.getElem_toArray, List.getElem_cons_zero, List.getElem_cons_succ, Act.put, List.setIfInBounds_toArray, List.set_cons_zero, List.set_cons_succ])
  refine wpAnyH_take (i := 2) (v := ?_) rfl (by kernel_rfl) (by kernel_rfl) (by kernel_rfl) (fun _ _ _ h => h) (Or.inl ⟨by rfl, ?_⟩) hHeld ?_
  rotate_left
  · (intro w0 hSw; (try dsimp only at hSw); (first | (go_simp; done) | (go_simp; with_reducible rfl)))
  (try simp only [List.getElem_toArray, List.getElem_cons_zero, List.getElem_cons_succ, Act.put, List.setIfInBounds_toArray, List.set_cons_zero, List.set_cons_succ])
  refine wpAnyH_take (i := 4) (v := ?_) rfl (by kernel_rfl) (by kernel_rfl) (by kernel_rfl) (fun _ _ _ h => h) (Or.inl ⟨by rfl, ?_⟩) hHeld ?_
  rotate_left
  · (intro w0 hSw; (try dsimp only at hSw); (first | (go_simp; done) | (go_simp; with_reducible rfl)))
  (try simp only [List.getElem_toArray, List.getElem_cons_zero, List.getElem_cons_succ, Act.put, List.setIfInBounds_toArray, List.set_cons_zero, List.set_cons_succ])
  refine wpAnyH_take (i := 5) (v := ?_) rfl (by kernel_rfl) (by kernel_rfl) (by kernel_rfl) (fun _ _ _ h => h) (Or.inl ⟨by rfl, ?_⟩) hHeld ?_
  rotate_left
  · (intro w0 hSw; (try dsimp only at hSw); (first | (go_simp; done) | (go_simp; with_reducible rfl)))
  (try simp only [List.getElem_toArray, List.getElem_cons_zero, List.getElem_cons_succ, Act.put, List.setIfInBounds_toArray, List.set_cons_zero, List.set_cons_succ])
  refine wpAnyH_ready (rs := [3]) (by kernel_rfl) (by simp) (AllReadyH.cons rfl (fun K hK => ?_) AllReadyH.nil)
  go_simp
  refine (C1.out _ _ ?_ ?_).mono ?_; (focus (repeat (first | (with_reducible exact Below.refl _ _) | (with_reducible refine Below.drew ?_) | (refine Below.setCell ?_ (by first | exact Nat.le_refl _ | (simp; done) | (simp; omega) | omega) _) | (refine Below.alloc ?_ (by first | exact Nat.le_refl _ | (simp; done) | (simp; omega) | omega) _) | (refine Below.trans ?_ (Below.mono (by assumption) (by first | exact Nat.le_refl _ | (simp; done) | (simp; omega) | omega)))))); (focus (exact HM.out _ _ (by simp))); rintro e w1 ⟨A1, c1, rfl, hI1, hb1⟩; obtain ⟨hc1, hf1⟩ := bcell hb1; (try simp only [World.size_drew, World.cell?_drew, World.frozen?_drew] at hc1 hf1); have hz1 := hb1.size; (try simp at hz1); have hLr1 := ((Lies.fresh _ _ _).alloc _).drew.on hb1; (simp at hLr1); have : w.heap.size < w1.heap.size := (by omega); have : w.heap.size + 1 < w1.heap.size := (by omega); have : w.heap.size + 1 + 1 < w1.heap.size := (by omega); (try dsimp only)
  refine hK.out _ _ (by (repeat' (with_reducible apply And.intro)) <;> go_simp) (fun hHeld2 => ?_)
  clear hK K hHeld; have hHeld := hHeld2; clear hHeld2
  (try simp only [List.getElem_toArray, List.getElem_cons_zero, List.getElem_cons_succ, Act.put, List.setIfInBounds_toArray, List.set_cons_zero, List.set_cons_succ])
  refine wpAnyH_ready (rs := [6]) (by kernel_rfl) (by simp) (AllReadyH.cons rfl (fun K hK => ?_) AllReadyH.nil)
  go_simp
  refine (C2.out _ _ _ ?_ hI1).mono ?_; (focus (repeat (first | (with_reducible exact Below.refl _ _) | (with_reducible refine Below.drew ?_) | (refine Below.setCell ?_ (by first | exact Nat.le_refl _ | (simp; done) | (simp; omega) | omega) _) | (refine Below.alloc ?_ (by first | exact Nat.le_refl _ | (simp; done) | (simp; omega) | omega) _) | (refine Below.trans ?_ (Below.mono (by assumption) (by first | exact Nat.le_refl _ | (simp; done) | (simp; omega) | omega)))))); rintro e w2 ⟨A2, c2, A3, c3, rfl, hI2, hI3, hb2⟩; obtain ⟨hc2, hf2⟩ := bcell hb2; have hz2 := hb2.size; (try simp at hz2); have hLr2 := hLr1.on hb2; have : w.heap.size < w2.heap.size := (by omega); have : w.heap.size + 1 < w2.heap.size := (by omega); have : w.heap.size + 1 + 1 < w2.heap.size := (by omega); (try dsimp only)
  refine hK.out _ _ (by (repeat' (with_reducible apply And.intro)) <;> go_simp) (fun hHeld2 => ?_)
  clear hK K hHeld; have hHeld := hHeld2; clear hHeld2
  (try simp only [List.getElem_toArray, List.getElem_cons_zero, List.getElem_cons_succ, Act.put, List.setIfInBounds_toArray, List.set_cons_zero, List.set_cons_succ])
  refine wpAnyH_take (i := 7) (v := ?_) rfl (by kernel_rfl) (by kernel_rfl) (by kernel_rfl) (fun _ _ _ h => h) (Or.inl ⟨by rfl, ?_⟩) hHeld ?_
  rotate_left
  · (intro w0 hSw; (try dsimp only at hSw); (first | (go_simp; done) | (go_simp; with_reducible rfl)))
  (try simp only [List.getElem_toArray, List.getElem_cons_zero, List.getElem_cons_succ, Act.put, List.setIfInBounds_toArray, List.set_cons_zero, List.set_cons_succ])
  refine wpAnyH_take (i := 8) (v := ?_) rfl (by kernel_rfl) (by kernel_rfl) (by kernel_rfl) (fun _ _ _ h => h) (Or.inl ⟨by rfl, ?_⟩) hHeld ?_
  rotate_left
  · (intro w0 hSw; (try dsimp only at hSw); (first | (go_simp; done) | (go_simp; with_reducible rfl)))
  (try simp only [List.getElem_toArray, List.getElem_cons_zero, List.getElem_cons_succ, Act.put, List.setIfInBounds_toArray, List.set_cons_zero, List.set_cons_succ])
  refine wpAnyH_take (i := 9) (v := ?_) rfl (by kernel_rfl) (by kernel_rfl) (by kernel_rfl) (fun _ _ _ h => h) (Or.inl ⟨by rfl, ?_⟩) hHeld ?_
  rotate_left
  · (intro w0 hSw; (try dsimp only at hSw); (first | (go_simp; done) | (go_simp; with_reducible rfl)))
  (try simp only [List.getElem_toArray, List.getElem_cons_zero, List.getElem_cons_succ, Act.put, List.setIfInBounds_toArray, List.set_cons_zero, List.set_cons_succ])
  refine wpAnyH_take (i := 10) (v := ?_) rfl (by kernel_rfl) (by kernel_rfl) (by kernel_rfl) (fun _ _ _ h => h) (Or.inl ⟨by rfl, ?_⟩) hHeld ?_
  rotate_left
  · (intro w0 hSw; (try dsimp only at hSw); (first | (go_simp; done) | (go_simp; with_reducible rfl)))
  (try simp only [List.getElem_toArray, List.getElem_cons_zero, List.getElem_cons_succ, Act.put, List.setIfInBounds_toArray, List.set_cons_zero, List.set_cons_succ])
  refine wpAnyH_take (i := 11) (v := ?_) rfl (by kernel_rfl) (by kernel_rfl) (by kernel_rfl) (fun _ _ _ h => h) (Or.inl ⟨by rfl, ?_⟩) hHeld ?_
  rotate_left
  · (intro w0 hSw; (try dsimp only at hSw); (first | (go_simp; done) | (go_simp; with_reducible rfl)))
  (try simp only [List.getElem_toArray, List.getElem_cons_zero, List.getElem_cons_succ, Act.put, List.setIfInBounds_toArray, List.set_cons_zero, List.set_cons_succ])
  refine wpAnyH_done (by kernel_rfl) ?_ _
  have HI2 := Lib.hid hI2
  have HLr2 := Lib.hid hLr2
  have hB2 : Below w.heap.size w w2 := by repeat (first | (with_reducible exact Below.refl _ _) | (with_reducible refine Below.drew ?_) | (refine Below.setCell ?_ (by first | exact Nat.le_refl _ | (simp; done) | (simp; omega) | omega) _) | (refine Below.alloc ?_ (by first | exact Nat.le_refl _ | (simp; done) | (simp; omega) | omega) _) | (refine Below.trans ?_ (Below.mono (by assumption) (by first | exact Nat.le_refl _ | (simp; done) | (simp; omega) | omega))))
  clear hI1 hI2 hI3 hLr1 hLr2 hHeld
  go_wp2_with fail
  refine (C4.out _ _ _ HI2.out).mono ?_
  rintro e w4 ⟨v4, rfl, ⟨A4, c4, rfl, hI4⟩, hb4⟩
  have hz4 := hb4.size
  have hLr4 := HLr2.out.on hb4
  have hB4 : Below w.heap.size w w4 := by repeat (first | (with_reducible exact Below.refl _ _) | (with_reducible refine Below.drew ?_) | (refine Below.setCell ?_ (by first | exact Nat.le_refl _ | (simp; done) | (simp; omega) | omega) _) | (refine Below.alloc ?_ (by first | exact Nat.le_refl _ | (simp; done) | (simp; omega) | omega) _) | (refine Below.trans ?_ (Below.mono (by assumption) (by first | exact Nat.le_refl _ | (simp; done) | (simp; omega) | omega))))
  have HI4 := Lib.hid hI4
  have HLr4 := Lib.hid hLr4
  clear hI4 hLr4 hb4
  go_wp2_with fail
  refine (C5.out _ _ ⟨A4, c4, rfl, HI4.out⟩).mono ?_
  rintro e w5 ⟨v5, rfl, ⟨A5, c5, rfl, hI5⟩, hb5⟩
  have hz5 := hb5.size
  have hLr5 := HLr4.out.on hb5
  obtain ⟨r0, r1, r2, r3⟩ := hLr5.cells2
  have HI5 := Lib.hid hI5
  have HL5 := Lib.hid hLr5
  have hB5 : Below w.heap.size w w5 := by repeat (first | (with_reducible exact Below.refl _ _) | (with_reducible refine Below.drew ?_) | (refine Below.setCell ?_ (by first | exact Nat.le_refl _ | (simp; done) | (simp; omega) | omega) _) | (refine Below.alloc ?_ (by first | exact Nat.le_refl _ | (simp; done) | (simp; omega) | omega) _) | (refine Below.trans ?_ (Below.mono (by assumption) (by first | exact Nat.le_refl _ | (simp; done) | (simp; omega) | omega))))
  clear hI5 hLr5 hb5 hc1 hf1 hc2 hf2 hb1 hb2
  go_wp2
  refine bodyPost_ret (v := .tuple #[.agg #[.bool n3, .slice A5 (dig m3).length c5], .int .i64 (k3 : Int)]) (by simp [results, Try.results28, go_sem, *]) rfl ⟨_, rfl, ⟨A5, c5, rfl, ?_⟩, ?_⟩
  · exact (HI5.out.far HL5.out (by decide) 0 _).far (HL5.out.put 0 _) (by decide) 1 _
  · repeat (first | (with_reducible exact Below.refl _ _) | (with_reducible refine Below.drew ?_) | (refine Below.setCell ?_ (by first | exact Nat.le_refl _ | (simp; done) | (simp; omega) | omega) _) | (refine Below.alloc ?_ (by first | exact Nat.le_refl _ | (simp; done) | (simp; omega) | omega) _) | (refine Below.trans ?_ (Below.mono (by assumption) (by first | exact Nat.le_refl _ | (simp; done) | (simp; omega) | omega))))
end Go.Proofs.Ytanfgolelhmdhaa
