/- The reference's Mul. -/
import Derived.Test.YtanfgolelhmdhaaRefN
import Derived.Test.YtanfgolelhmdhaaRefJ
import Derived.Test.YtanfgolelhmdhaaDecZ
namespace Go.Proofs.Ytanfgolelhmdhaa
set_option linter.unusedSimpArgs false
set_option linter.unusedVariables false
set_option linter.unnecessarySimpa false
open Go.RowKit

set_option maxHeartbeats 4000000 in
theorem rmul_z {v v' : Value} {x y : Int} {w : World} (h : IsZ w v x) (h' : IsZ w v' y) (hl : (dig x.natAbs).length ≤ 300) (hl' : (dig y.natAbs).length ≤ 300) :
    Calls Try.prog 27 #[v, v'] w (RetHeld (negZ (fitZ ((x * y).tdiv 1000000))) (fitZ ((x * y).tdiv 1000000)).natAbs (fitC ((x * y).tdiv 1000000).natAbs) w) := by
  obtain ⟨A, c, rfl, hI⟩ := h
  obtain ⟨A', c', rfl, hI'⟩ := h'
  have hm : x.natAbs * y.natAbs / 1000000 = ((x * y).tdiv 1000000).natAbs := (mul_abs x y).symm
  have hz : signB (negZ x != negZ y) (x.natAbs * y.natAbs / 1000000) = negZ ((x * y).tdiv 1000000) := signB_z hm mul_sgn
  have hlen : (dig (x.natAbs * y.natAbs)).length ≤ 1000 := Nat.le_trans (mul_len hl hl' (Nat.le_refl _)) (by omega)
  have hlen2 : (dig (x.natAbs * y.natAbs / 1000000)).length ≤ 1000 := Nat.le_trans (mul_len hl hl' (Nat.div_le_self _ _)) (by omega)
  have C1 : Hid (∀ W, Below w.heap.size w W → Calls Try.prog 58 #[.slice A (dig x.natAbs).length c, .slice A' (dig y.natAbs).length c'] W (RetInts (x.natAbs * y.natAbs) W)) :=
    fun W hW => times_any (hI.on hW) (hI'.on hW) hl hl'
  have C2 : Hid (∀ W A c, Ints W A c (dig (x.natAbs * y.natAbs)) → Calls Try.prog 57 #[.slice A (dig (x.natAbs * y.natAbs)).length c] W fun e w' => ∃ A' c', e = .returned (.slice A' (dig (x.natAbs * y.natAbs / 1000000)).length c') ∧ Ints W A' c' (dig (x.natAbs * y.natAbs / 1000000)) ∧ W = w') :=
    fun W A c hA => lower_any hA hlen
  have C3 : Hid (∀ W A c, Ints W A c (dig (x.natAbs * y.natAbs / 1000000)) → Calls Try.prog 47 #[.slice A (dig (x.natAbs * y.natAbs / 1000000)).length c] W (RetInts (x.natAbs * y.natAbs / 1000000) W)) := by
    intro W A c hA
    have k := cut_any hA hlen2 (dig_lt _)
    rw [dval_dig] at k
    exact k
  have C4 : Hid (∀ W A c, Ints W A c (dig (x.natAbs * y.natAbs / 1000000)) → Calls Try.prog 48 #[.bool (negZ x != negZ y), .slice A (dig (x.natAbs * y.natAbs / 1000000)).length c] W (RetNum (negZ ((x * y).tdiv 1000000)) ((x * y).tdiv 1000000).natAbs W)) := by
    intro W A c hA
    rw [← hz, ← hm]
    exact rsigned_any hA hlen2
  have C5 : Hid (∀ W v, IsNum W v (negZ ((x * y).tdiv 1000000)) ((x * y).tdiv 1000000).natAbs → Calls Try.prog 52 #[v] W (RetHeld (negZ (fitZ ((x * y).tdiv 1000000))) (fitZ ((x * y).tdiv 1000000)).natAbs (fitC ((x * y).tdiv 1000000).natAbs) W)) := by
    intro W v hv
    rw [← heldN_z, ← fitQ_z]
    exact rheld_any hv
  clear hI hI' hm hz hlen hlen2 hl hl'
  generalize (x * y).tdiv 1000000 = z at *
  generalize negZ (fitZ z) = n3 at *
  generalize (fitZ z).natAbs = m3 at *
  generalize fitC z.natAbs = k3 at *
  generalize negZ z = n2 at *
  generalize z.natAbs = m2 at *
  generalize x.natAbs * y.natAbs / 1000000 = mq at *
  generalize x.natAbs * y.natAbs = mp at *
  generalize (dig x.natAbs).length = p at *
  generalize (dig y.natAbs).length = q at *
  generalize negZ x = nx at *
  generalize negZ y = ny at *
  go_enter Try.func27, Try.ntmps27
  go_wp2
  refine wp_region_held_drew (S := fun w' => w'.cell? ⟨w.heap.size, 0, none⟩ = some (.bool nx) ∧ w'.cell? ⟨w.heap.size, 1, none⟩ = some (.slice A p c) ∧ w'.cell? ⟨w.heap.size + 1, 0, none⟩ = some (.bool ny) ∧ w'.cell? ⟨w.heap.size + 1, 1, none⟩ = some (.slice A' q c')) (by kernel_rfl) (by (repeat' (with_reducible apply And.intro)) <;> go_simp) (fun hHeld => ?_)
  refine wpAnyH_take (i := 0) (v := ?_) rfl (by kernel_rfl) (by kernel_rfl) (by kernel_rfl) (fun _ _ _ h => h) (Or.inl ⟨by rfl, ?_⟩) hHeld ?_
  rotate_left
  · (intro w0 hSw; (try dsimp only at hSw); (first | (go_simp; done) | (go_simp; with_reducible rfl)))
  (try simp only [List.getElem_toArray, List.getElem_cons_zero, List.getElem_cons_succ, Act.put, List.setIfInBounds_toArray, List.set_cons_zero, List.set_cons_succ])
  refine wpAnyH_take (i := 1) (v := ?_) rfl (by kernel_rfl) (by kernel_rfl) (by kernel_rfl) (fun _ _ _ h => h) (Or.inl ⟨by rfl, ?_⟩) hHeld ?_
  rotate_left
  · (intro w0 hSw; (try dsimp only at hSw); (first | (go_simp; done) | (go_simp; with_reducible rfl)))
  (try simp only [List.getElem_toArray, List.getElem_cons_zero, List.getElem_cons_succ, Act.put, List.setIfInBounds_toArray, List.set_cons_zero, List.set_cons_succ])
  refine wpAnyH_take (i := 2) (v := ?_) rfl (by kernel_rfl) (by kernel_rfl) (by kernel_rfl) (fun _ _ _ h => h) (Or.inl ⟨by rfl, ?_⟩) hHeld ?_
  rotate_left
  · (intro w0 hSw; (try dsimp only at hSw); (first | (go_simp; done) | (go_simp; with_reducible rfl)))
  (try simp only [List.getElem_toArray, List.getElem_cons_zero, List.getElem_cons_succ, Act.put, List.setIfInBounds_toArray, List.set_cons_zero, List.set_cons_succ])
  refine wpAnyH_take (i := 3) (v := ?_) rfl (by kernel_rfl) (by kernel_rfl) (by kernel_rfl) (fun _ _ _ h => h) (Or.inl ⟨by rfl, ?_⟩) hHeld ?_
  rotate_left
  · (intro w0 hSw; (try dsimp only at hSw); (first | (go_simp; done) | (go_simp; with_reducible rfl)))
  (try simp only [List.getElem_toArray, List.getElem_cons_zero, List.getElem_cons_succ, Act.put, List.setIfInBounds_toArray, List.set_cons_zero, List.set_cons_succ])
  refine wpAnyH_take (i := 4) (v := ?_) rfl (by kernel_rfl) (by kernel_rfl) (by kernel_rfl) (fun _ _ _ h => h) (Or.inl ⟨by rfl, ?_⟩) hHeld ?_
  rotate_left
  · (intro w0 hSw; (try dsimp only at hSw); (first | (go_simp; done) | (go_simp; with_reducible rfl)))
  (try simp only [List.getElem_toArray, List.getElem_cons_zero, List.getElem_cons_succ, Act.put, List.setIfInBounds_toArray, List.set_cons_zero, List.set_cons_succ])
  refine wpAnyH_take (i := 5) (v := ?_) rfl (by kernel_rfl) (by kernel_rfl) (by kernel_rfl) (fun _ _ _ h => h) (Or.inl ⟨by rfl, ?_⟩) hHeld ?_
  rotate_left
  · (intro w0 hSw; (try dsimp only at hSw); (first | (go_simp; done) | (go_simp; with_reducible rfl)))
  (try simp only [List.getElem_toArray, List.getElem_cons_zero, List.getElem_cons_succ, Act.put, List.setIfInBounds_toArray, List.set_cons_zero, List.set_cons_succ])
  refine wpAnyH_take (i := 6) (v := ?_) rfl (by kernel_rfl) (by kernel_rfl) (by kernel_rfl) (fun _ _ _ h => h) (Or.inl ⟨by rfl, ?_⟩) hHeld ?_
  rotate_left
  · (intro w0 hSw; (try dsimp only at hSw); (first | (go_simp; done) | (go_simp; with_reducible rfl)))
  (try simp only [List.getElem_toArray, List.getElem_cons_zero, List.getElem_cons_succ, Act.put, List.setIfInBounds_toArray, List.set_cons_zero, List.set_cons_succ])
  refine wpAnyH_take (i := 7) (v := ?_) rfl (by kernel_rfl) (by kernel_rfl) (by kernel_rfl) (fun _ _ _ h => h) (Or.inl ⟨by rfl, ?_⟩) hHeld ?_
  rotate_left
  · (intro w0 hSw; (try dsimp only at hSw); (first | (go_simp; done) | (go_simp; with_reducible rfl)))
  (try simp only [List.getElem_toArray, List.getElem_cons_zero, List.getElem_cons_succ, Act.put, List.setIfInBounds_toArray, List.set_cons_zero, List.set_cons_succ])
  refine wpAnyH_take (i := 8) (v := ?_) rfl (by kernel_rfl) (by kernel_rfl) (by kernel_rfl) (fun _ _ _ h => h) (Or.inl ⟨by rfl, ?_⟩) hHeld ?_
  rotate_left
  · (intro w0 hSw; (try dsimp only at hSw); (first | (go_simp; done) | (go_simp; with_reducible rfl)))
  (try simp only [List.getElem_toArray, List.getElem_cons_zero, List.getElem_cons_succ, Act.put, List.setIfInBounds_toArray, List.set_cons_zero, List.set_cons_succ])
  refine wpAnyH_ready (rs := [9]) (by kernel_rfl) (by simp) (AllReadyH.cons rfl (fun K hK => ?_) AllReadyH.nil)
  go_simp
  refine (C1.out _ ?_).mono ?_; (focus (repeat (first | (with_reducible exact Below.refl _ _) | (with_reducible refine Below.drew ?_) | (refine Below.setCell ?_ (by first | exact Nat.le_refl _ | (simp; done) | (simp; omega) | omega) _) | (refine Below.alloc ?_ (by first | exact Nat.le_refl _ | (simp; done) | (simp; omega) | omega) _) | (refine Below.trans ?_ (Below.mono (by assumption) (by first | exact Nat.le_refl _ | (simp; done) | (simp; omega) | omega)))))); rintro e w1 ⟨A1, c1, rfl, hI1, hb1⟩; obtain ⟨hc1, hf1⟩ := bcell hb1; (try simp only [World.size_drew, World.cell?_drew, World.frozen?_drew] at hc1 hf1); have hz1 := hb1.size; (try simp at hz1); have hLr1 := (Lies.fresh _ _ _).drew.on hb1; (simp at hLr1); have : w.heap.size < w1.heap.size := (by omega); have : w.heap.size + 1 < w1.heap.size := (by omega); have : w.heap.size + 1 + 1 < w1.heap.size := (by omega); (try dsimp only)
  refine hK.out _ _ (by (repeat' (with_reducible apply And.intro)) <;> go_simp) (fun hHeld2 => ?_)
  clear hK K hHeld; have hHeld := hHeld2; clear hHeld2
  (try simp only [List.getElem_toArray, List.getElem_cons_zero, List.getElem_cons_succ, Act.put, List.setIfInBounds_toArray, List.set_cons_zero, List.set_cons_succ])
  refine wpAnyH_ready (rs := [10]) (by kernel_rfl) (by simp) (AllReadyH.cons rfl (fun K hK => ?_) AllReadyH.nil)
  go_simp
  refine (C2.out _ _ _ hI1).mono ?_; rintro e ww ⟨A2, c2, rfl, hI2, rfl⟩; (try dsimp only)
  refine hK.out _ _ (by (repeat' (with_reducible apply And.intro)) <;> go_simp) (fun hHeld2 => ?_)
  clear hK K hHeld; have hHeld := hHeld2; clear hHeld2
  (try simp only [List.getElem_toArray, List.getElem_cons_zero, List.getElem_cons_succ, Act.put, List.setIfInBounds_toArray, List.set_cons_zero, List.set_cons_succ])
  refine wpAnyH_ready (rs := [11]) (by kernel_rfl) (by simp) (AllReadyH.cons rfl (fun K hK => ?_) AllReadyH.nil)
  go_simp
  refine (C3.out _ _ _ hI2).mono ?_; rintro e w3 ⟨A3, c3, rfl, hI3, hb3⟩; obtain ⟨hc3, hf3⟩ := bcell hb3; have hz3 := hb3.size; (try simp at hz3); have hLr3 := hLr1.on hb3; have : w.heap.size < w3.heap.size := (by omega); have : w.heap.size + 1 < w3.heap.size := (by omega); have : w.heap.size + 1 + 1 < w3.heap.size := (by omega); (try dsimp only)
  refine hK.out _ _ (by (repeat' (with_reducible apply And.intro)) <;> go_simp) (fun hHeld2 => ?_)
  clear hK K hHeld; have hHeld := hHeld2; clear hHeld2
  (try simp only [List.getElem_toArray, List.getElem_cons_zero, List.getElem_cons_succ, Act.put, List.setIfInBounds_toArray, List.set_cons_zero, List.set_cons_succ])
  refine wpAnyH_ready (rs := [12]) (by kernel_rfl) (by simp) (AllReadyH.cons rfl (fun K hK => ?_) AllReadyH.nil)
  go_simp
  refine (C4.out _ _ _ hI3).mono ?_; rintro e w4 ⟨v4, rfl, ⟨A4, c4, rfl, hI4⟩, hb4⟩; obtain ⟨hc4, hf4⟩ := bcell hb4; have hz4 := hb4.size; (try simp at hz4); have hLr4 := hLr3.on hb4; have : w.heap.size < w4.heap.size := (by omega); have : w.heap.size + 1 < w4.heap.size := (by omega); have : w.heap.size + 1 + 1 < w4.heap.size := (by omega); (try dsimp only)
  refine hK.out _ _ (by (repeat' (with_reducible apply And.intro)) <;> go_simp) (fun hHeld2 => ?_)
  clear hK K hHeld; have hHeld := hHeld2; clear hHeld2
  (try simp only [List.getElem_toArray, List.getElem_cons_zero, List.getElem_cons_succ, Act.put, List.setIfInBounds_toArray, List.set_cons_zero, List.set_cons_succ])
  refine wpAnyH_ready (rs := [13]) (by kernel_rfl) (by simp) (AllReadyH.cons rfl (fun K hK => ?_) AllReadyH.nil)
  go_simp
  refine (C5.out _ _ ⟨A4, c4, rfl, hI4⟩).mono ?_; rintro e w5 ⟨v5, rfl, ⟨A5, c5, rfl, hI5⟩, hb5⟩; obtain ⟨hc5, hf5⟩ := bcell hb5; have hz5 := hb5.size; (try simp at hz5); have hLr5 := hLr4.on hb5; have : w.heap.size < w5.heap.size := (by omega); have : w.heap.size + 1 < w5.heap.size := (by omega); have : w.heap.size + 1 + 1 < w5.heap.size := (by omega); (try dsimp only)
  refine hK.out _ _ (by (repeat' (with_reducible apply And.intro)) <;> go_simp) (fun hHeld2 => ?_)
  clear hK K hHeld; have hHeld := hHeld2; clear hHeld2
  (try simp only [List.getElem_toArray, List.getElem_cons_zero, List.getElem_cons_succ, Act.put, List.setIfInBounds_toArray, List.set_cons_zero, List.set_cons_succ])
  refine wpAnyH_take (i := 14) (v := ?_) rfl (by kernel_rfl) (by kernel_rfl) (by kernel_rfl) (fun _ _ _ h => h) (Or.inl ⟨by rfl, ?_⟩) hHeld ?_
  rotate_left
  · (intro w0 hSw; (try dsimp only at hSw); (first | (go_simp; done) | (go_simp; with_reducible rfl)))
  (try simp only [List.getElem_toArray, List.getElem_cons_zero, List.getElem_cons_succ, Act.put, List.setIfInBounds_toArray, List.set_cons_zero, List.set_cons_succ])
  refine wpAnyH_take (i := 15) (v := ?_) rfl (by kernel_rfl) (by kernel_rfl) (by kernel_rfl) (fun _ _ _ h => h) (Or.inl ⟨by rfl, ?_⟩) hHeld ?_
  rotate_left
  · (intro w0 hSw; (try dsimp only at hSw); (first | (go_simp; done) | (go_simp; with_reducible rfl)))
  (try simp only [List.getElem_toArray, List.getElem_cons_zero, List.getElem_cons_succ, Act.put, List.setIfInBounds_toArray, List.set_cons_zero, List.set_cons_succ])
  have HL5 := Lib.hid hLr5
  have HI5 := Lib.hid hI5
  obtain ⟨r0, r1, r2, r3⟩ := hLr5.cells2
  have hB5 : Below w.heap.size w w5 := by repeat (first | (with_reducible exact Below.refl _ _) | (with_reducible refine Below.drew ?_) | (refine Below.setCell ?_ (by first | exact Nat.le_refl _ | (simp; done) | (simp; omega) | omega) _) | (refine Below.alloc ?_ (by first | exact Nat.le_refl _ | (simp; done) | (simp; omega) | omega) _) | (refine Below.trans ?_ (Below.mono (by assumption) (by first | exact Nat.le_refl _ | (simp; done) | (simp; omega) | omega))))
  clear hI1 hI2 hI3 hI4 hI5 hLr1 hLr3 hLr4 hLr5
  refine wpAnyH_ready (rs := [16]) (by kernel_rfl) (by simp) (AllReadyH.cons rfl (fun K hK => ?_) AllReadyH.nil)
  go_simp
  refine hK.out _ _ (by (repeat' (with_reducible apply And.intro)) <;> go_simp) (fun hHeld2 => ?_)
  clear hK K hHeld; have hHeld := hHeld2; clear hHeld2
  (try simp only [List.getElem_toArray, List.getElem_cons_zero, List.getElem_cons_succ, Act.put, List.setIfInBounds_toArray, List.set_cons_zero, List.set_cons_succ])
  refine wpAnyH_take (i := 17) (v := ?_) rfl (by kernel_rfl) (by kernel_rfl) (by kernel_rfl) (fun _ _ _ h => h) (Or.inl ⟨by rfl, ?_⟩) hHeld ?_
  rotate_left
  · (intro w0 hSw; (try dsimp only at hSw); (first | (go_simp; done) | (go_simp; with_reducible rfl)))
  (try simp only [List.getElem_toArray, List.getElem_cons_zero, List.getElem_cons_succ, Act.put, List.setIfInBounds_toArray, List.set_cons_zero, List.set_cons_succ])
  refine wpAnyH_done (by kernel_rfl) ?_ _
  clear hHeld
  go_wp2
  refine bodyPost_ret (v := .tuple #[.agg #[.bool n3, .slice A5 (dig m3).length c5], .int .i64 (k3 : Int)]) (by simp [results, Try.results27, go_sem, *]) rfl ⟨_, rfl, ⟨A5, c5, rfl, ?_⟩, ?_⟩
  · exact (HI5.out.far HL5.out (by decide) 0 _).far (HL5.out.put 0 _) (by decide) 1 _
  · repeat (first | (with_reducible exact Below.refl _ _) | (with_reducible refine Below.drew ?_) | (refine Below.setCell ?_ (by first | exact Nat.le_refl _ | (simp; done) | (simp; omega) | omega) _) | (refine Below.alloc ?_ (by first | exact Nat.le_refl _ | (simp; done) | (simp; omega) | omega) _) | (refine Below.trans ?_ (Below.mono (by assumption) (by first | exact Nat.le_refl _ | (simp; done) | (simp; omega) | omega))))
end Go.Proofs.Ytanfgolelhmdhaa
