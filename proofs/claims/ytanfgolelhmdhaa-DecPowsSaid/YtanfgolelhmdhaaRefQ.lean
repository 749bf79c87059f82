/- The reference's Mod and Div. -/
import Derived.Test.YtanfgolelhmdhaaRefP
import Derived.Test.YtanfgolelhmdhaaRefO
import Derived.Test.YtanfgolelhmdhaaRefD
namespace Go.Proofs.Ytanfgolelhmdhaa
set_option linter.unusedSimpArgs false
set_option linter.unusedVariables false
set_option linter.unnecessarySimpa false
open Go.RowKit

theorem dig_some {z : Int} (h : z ≠ 0) : (((((dig z.natAbs).length : Nat) : Int)) == 0) = false := by
  rw [len0]; simp; omega
set_option maxHeartbeats 4000000 in
theorem rmod_z {v v' : Value} {x y : Int} {w : World} (h : IsZ w v x) (h' : IsZ w v' y) (hl : (dig x.natAbs).length ≤ 300) (hl' : (dig y.natAbs).length ≤ 300) (h0 : y ≠ 0) :
    Calls Try.prog 29 #[v, v'] w (RetHeld (negZ (x.tmod y)) (x.tmod y).natAbs 0 w) := by
  obtain ⟨A, c, rfl, hI⟩ := h
  obtain ⟨A', c', rfl, hI'⟩ := h'
  have hm : x.natAbs % y.natAbs = (x.tmod y).natAbs := (Int.natAbs_tmod x y).symm
  have hz : signB (negZ x) (x.natAbs % y.natAbs) = negZ (x.tmod y) := signB_z hm (fun h => (tmod_sign (by rw [← Int.natAbs_tmod] at h; omega)).symm)
  have hlen : (dig (x.tmod y).natAbs).length ≤ 1000 := by
    rw [← hm]
    exact Nat.le_trans (dig_len_le (k := (dig x.natAbs).length) (Nat.lt_of_le_of_lt (Nat.mod_le _ _) (dig_len_lt _))) (by omega)
  have C1 : Hid (∀ W, Below w.heap.size w W → Calls Try.prog 59 #[.slice A (dig x.natAbs).length c, .slice A' (dig y.natAbs).length c'] W (RetTwo (x.natAbs / y.natAbs) (x.tmod y).natAbs W)) := by
    intro W hW
    rw [← hm]
    exact over_any (hI.on hW) (hI'.on hW) (by omega) hl' (by omega)
  have C2 : Hid (∀ W A c, Ints W A c (dig (x.tmod y).natAbs) → Calls Try.prog 48 #[.bool (negZ x), .slice A (dig (x.tmod y).natAbs).length c] W (RetNum (negZ (x.tmod y)) (x.tmod y).natAbs W)) := by
    intro W A c hA
    rw [← hz, hm]
    exact rsigned_any hA hlen
  have tq := dig_some h0
  clear hI hI' hm hz hlen hl hl' h0
  generalize negZ (x.tmod y) = n2 at *
  generalize (x.tmod y).natAbs = m2 at *
  generalize x.natAbs / y.natAbs = mq at *
  generalize (dig x.natAbs).length = p at *
  generalize (dig y.natAbs).length = q at *
  generalize negZ x = nx at *
  generalize negZ y = ny at *
  go_enter Try.func29, Try.ntmps29
  go_wp2_with fail
  refine (C1.out _ (by repeat (first | (with_reducible exact Below.refl _ _) | (with_reducible refine Below.drew ?_) | (refine Below.setCell ?_ (by first | exact Nat.le_refl _ | (simp; done) | (simp; omega) | omega) _) | (refine Below.alloc ?_ (by first | exact Nat.le_refl _ | (simp; done) | (simp; omega) | omega) _) | (refine Below.trans ?_ (Below.mono (by assumption) (by first | exact Nat.le_refl _ | (simp; done) | (simp; omega) | omega)))))).mono ?_
  rintro e w1 ⟨A1, c1, A2, c2, rfl, hI1, hI2, hb1⟩
  obtain ⟨hc1, hf1⟩ := bcell hb1
  have hz1 := hb1.size; (try simp at hz1)
  have hLr1 := (Lies.fresh _ _ _).on hb1
  simp at hLr1
  have : w.heap.size < w1.heap.size := by omega
  have : w.heap.size + 1 < w1.heap.size := by omega
  have : w.heap.size + 1 + 1 < w1.heap.size := by omega
  have HI2 := Lib.hid hI2
  have HLr1 := Lib.hid hLr1
  clear hI1 hI2 hLr1
  go_wp2_with fail
  refine (C2.out _ _ _ HI2.out).mono ?_
  rintro e w2 ⟨v2, rfl, ⟨A3, c3, rfl, hI3⟩, hb2⟩
  obtain ⟨hc2, hf2⟩ := bcell hb2
  have hz2 := hb2.size; (try simp at hz2)
  have hLr2 := HLr1.out.on hb2
  have : w.heap.size < w2.heap.size := by omega
  have : w.heap.size + 1 < w2.heap.size := by omega
  have : w.heap.size + 1 + 1 < w2.heap.size := by omega
  obtain ⟨r0, r1, r2, r3⟩ := hLr2.cells2
  have HI3 := Lib.hid hI3
  have HLr2 := Lib.hid hLr2
  have hB2 : Below w.heap.size w w2 := by repeat (first | (with_reducible exact Below.refl _ _) | (with_reducible refine Below.drew ?_) | (refine Below.setCell ?_ (by first | exact Nat.le_refl _ | (simp; done) | (simp; omega) | omega) _) | (refine Below.alloc ?_ (by first | exact Nat.le_refl _ | (simp; done) | (simp; omega) | omega) _) | (refine Below.trans ?_ (Below.mono (by assumption) (by first | exact Nat.le_refl _ | (simp; done) | (simp; omega) | omega))))
  clear hI3 hLr2 hb1 hb2 hc1 hf1 hc2 hf2
  go_wp2
  refine bodyPost_ret (v := .tuple #[.agg #[.bool n2, .slice A3 (dig m2).length c3], .int .i64 0]) (by simp [results, Try.results29, go_sem, *]) rfl ⟨_, rfl, ⟨A3, c3, rfl, ?_⟩, ?_⟩
  · exact (HI3.out.far HLr2.out (by decide) 0 _).far (HLr2.out.put 0 _) (by decide) 1 _
  · repeat (first | (with_reducible exact Below.refl _ _) | (with_reducible refine Below.drew ?_) | (refine Below.setCell ?_ (by first | exact Nat.le_refl _ | (simp; done) | (simp; omega) | omega) _) | (refine Below.alloc ?_ (by first | exact Nat.le_refl _ | (simp; done) | (simp; omega) | omega) _) | (refine Below.trans ?_ (Below.mono (by assumption) (by first | exact Nat.le_refl _ | (simp; done) | (simp; omega) | omega))))

set_option maxHeartbeats 2000000 in
theorem rmod_0 {v v' : Value} {n n' : Bool} {m : Nat} {w : World} (h : IsNum w v n m) (h' : IsNum w v' n' 0) :
    Calls Try.prog 29 #[v, v'] w (RetHeld false 0 3 w) := by
  obtain ⟨A, c, rfl, hI⟩ := h
  obtain ⟨A', c', rfl, hI'⟩ := h'
  have hq : (dig 0).length = 0 := by rw [dig_zero]; rfl
  rw [hq]
  clear hI hI' hq
  generalize (dig m).length = p at *
  go_enter Try.func29, Try.ntmps29
  go_wp2
  refine bodyPost_ret (v := .tuple #[.agg #[.bool false, .slice none 0 0], .int .i64 3]) (by simp [results, Try.results29, go_sem, *]) rfl ⟨_, rfl, ⟨none, 0, by rw [dig_zero]; rfl, by rw [dig_zero]; exact Ints.nil _⟩, ?_⟩
  repeat (first | (with_reducible exact Below.refl _ _) | (with_reducible refine Below.drew ?_) | (refine Below.setCell ?_ (by first | exact Nat.le_refl _ | (simp; done) | (simp; omega) | omega) _) | (refine Below.alloc ?_ (by first | exact Nat.le_refl _ | (simp; done) | (simp; omega) | omega) _) | (refine Below.trans ?_ (Below.mono (by assumption) (by first | exact Nat.le_refl _ | (simp; done) | (simp; omega) | omega))))
set_option maxHeartbeats 2000000 in
theorem rdiv_0 {v v' : Value} {n n' : Bool} {m : Nat} {w : World} (h : IsNum w v n m) (h' : IsNum w v' n' 0) :
    Calls Try.prog 28 #[v, v'] w (RetHeld false 0 3 w) := by
  obtain ⟨A, c, rfl, hI⟩ := h
  obtain ⟨A', c', rfl, hI'⟩ := h'
  have hq : (dig 0).length = 0 := by rw [dig_zero]; rfl
  rw [hq]
  clear hI hI' hq
  generalize (dig m).length = p at *
  go_enter Try.func28, Try.ntmps28
  go_wp2
  refine bodyPost_ret (v := .tuple #[.agg #[.bool false, .slice none 0 0], .int .i64 3]) (by simp [results, Try.results28, go_sem, *]) rfl ⟨_, rfl, ⟨none, 0, by rw [dig_zero]; rfl, by rw [dig_zero]; exact Ints.nil _⟩, ?_⟩
  repeat (first | (with_reducible exact Below.refl _ _) | (with_reducible refine Below.drew ?_) | (refine Below.setCell ?_ (by first | exact Nat.le_refl _ | (simp; done) | (simp; omega) | omega) _) | (refine Below.alloc ?_ (by first | exact Nat.le_refl _ | (simp; done) | (simp; omega) | omega) _) | (refine Below.trans ?_ (Below.mono (by assumption) (by first | exact Nat.le_refl _ | (simp; done) | (simp; omega) | omega))))
end Go.Proofs.Ytanfgolelhmdhaa
