/- The contracts of the document's own Prefix and Looks. -/
import Derived.Test.YtfecnogmjfmghaaDoorNumX
namespace Go.Proofs.YtfecnogmjfmghaaDoor
set_option linter.unusedSimpArgs false
set_option linter.unusedVariables false
set_option linter.unnecessarySimpa false
open Go.RowKit

theorem rpre_u (l : List UInt8) (hl : l.length ≤ 1000) (w : World) :
    Calls Tryd.prog 11 #[.string (S8 l)] w (RGot (fitZ (numZ l)) (numN l) (fitC (numZ l).natAbs) w) := by
  obtain ⟨B, S, W, P, F, R, hp⟩ := parts_ex l
  refine rpre_core hp.places hl _ _ _ (fun h0 => ?_) (fun h0 => ?_) w
  · have hs := shp_none hp h0
    rw [numZ_none hs, numN_none hs]
    exact ⟨by decide, rfl, by decide⟩
  · rw [hp.numZ h0, hp.numN h0]
    refine ⟨by by_cases hS : S = [45] <;> simp [hS], rfl, ?_⟩
    congr 1
    split <;> simp

set_option maxRecDepth 100000 in
set_option maxHeartbeats 8000000 in
theorem rlooks_u (l : List UInt8) (hl : l.length ≤ 1000) (w : World) :
    Calls Tryd.prog 14 #[.string (S8 l)] w fun e w' => e = .returned (.bool (looksB l)) ∧ Below w.heap.size w w' := by
  have HP := Lib.hid (rpre_u l hl)
  have hN := numN_le l
  have hB : looksB l = (decide (numN l ≠ 0) && (l.drop (numN l)).all blkU) := rfl
  rw [hB]
  clear hB
  have hln := s8_len l
  generalize numN l = N at *
  generalize fitZ (numZ l) = z at *
  generalize fitC (numZ l).natAbs = E at *
  obtain ⟨b, hb⟩ : ∃ b, b = (decide (N ≠ 0) && (l.drop N).all blkU) := ⟨_, rfl⟩
  rw [← hb]
  have HBV := Lib.hid hb
  clear hb
  go_enter Tryd.func14, Tryd.ntmps14
  go_wp2_with fail
  refine (HP.out _).mono ?_
  rintro e1 w1 ⟨A1, c1, rfl, hI1, hB1⟩
  have hzw1 := hB1.size
  have HB1 := Lib.hid hB1
  clear hI1 hB1
  by_cases h0 : N = 0
  · subst h0
    obtain rfl : b = false := HBV.out
    go_wp2_with fail
    go_ret
    refine ⟨rfl, ?_⟩
    have hb1 := HB1.out
    repeat (first | (with_reducible exact Below.refl _ _) | (with_reducible refine Below.drew ?_) | (refine Below.setCell ?_ (by first | exact Nat.le_refl _ | (simp; done) | (simp; omega) | omega) _) | (refine Below.alloc ?_ (by first | exact Nat.le_refl _ | (simp; done) | (simp; omega) | omega) _) | (refine Below.trans ?_ (Below.mono (by assumption) (by first | exact Nat.le_refl _ | (simp; done) | (simp; omega) | omega))))
  · have t0 : ((N : Int) == 0) = false := by rw [beq_eq_false_iff_ne]; omega
    have hb' : Hid (b = (l.drop N).all blkU) := by show _ = _; rw [HBV.out, decide_eq_true h0, Bool.true_and]
    clear h0
    go_wp2_with fail
    go_loop [4] (fun i => ∃ k : Nat, N ≤ k ∧ k ≤ l.length ∧ i = .int .i64 (k : Int) ∧ Hid (b = (l.drop k).all blkU)) (fun i => l.length - (intOf i).toNat)
    case atStart => exact ⟨N, Nat.le_refl _, hN, rfl, hb'⟩
    case round =>
      obtain ⟨k, hNk, hk, rfl, hbk⟩ := hrel
      by_cases hlt : k < l.length
      · have hlt' : (k : Int) < (l.length : Int) := by omega
        have hge : (0 : Int) ≤ (k : Int) := by omega
        have hbig : (k : Int) ≤ 1000 := by omega
        have hat := s8_at l k hlt (k : Int) rfl
        have hd : l.drop k = l.getD k 0 :: l.drop (k + 1) := by rw [List.drop_eq_getElem_cons hlt, List.getD_eq_getElem?_getD, List.getElem?_eq_getElem hlt]; rfl
        have hb2 := hbk.out
        rw [hd, List.all_cons] at hb2
        have HB2 := Lib.hid hb2
        have HCl := Lib.hid (blank2_u (l.getD k 0))
        have HM : Hid (l.length - ((k : Int) + 1).toNat < l.length - ((k : Int)).toNat) := by show _ < _; omega
        clear hb2 hd hbk
        generalize l.getD k 0 = x at *
        cases hx : blkU x with
        | true =>
          have hb3 : Hid (b = (l.drop (k + 1)).all blkU) := by have := HB2.out; rw [hx, Bool.true_and] at this; exact this
          rw [hx] at HCl
          clear HB2 hx
          generalize S8 l = sl at *
          go_wp2_with (refine (HCl.out _).mono ?_; rintro _ _ ⟨rfl, rfl⟩)
          go_round
          case rel => exact ⟨k + 1, by omega, by omega, rfl, hb3⟩
          case measure => exact HM.out
        | false =>
          have hb3 : b = false := by have := HB2.out; rw [hx, Bool.false_and] at this; exact this
          rw [hx] at HCl
          subst hb3
          clear HB2 hx HM
          generalize S8 l = sl at *
          go_wp2_with (refine (HCl.out _).mono ?_; rintro _ _ ⟨rfl, rfl⟩)
          go_ret
          refine ⟨rfl, ?_⟩
          have hb1 := HB1.out
          repeat (first | (with_reducible exact Below.refl _ _) | (with_reducible refine Below.drew ?_) | (refine Below.setCell ?_ (by first | exact Nat.le_refl _ | (simp; done) | (simp; omega) | omega) _) | (refine Below.alloc ?_ (by first | exact Nat.le_refl _ | (simp; done) | (simp; omega) | omega) _) | (refine Below.trans ?_ (Below.mono (by assumption) (by first | exact Nat.le_refl _ | (simp; done) | (simp; omega) | omega))))
      · have hb3 : b = true := by rw [hbk.out, List.drop_eq_nil_of_le (by omega)]; rfl
        have t1 : decide ((k : Int) < (l.length : Int)) = false := decide_eq_false (by omega)
        have t2 : decide (k < l.length) = false := decide_eq_false hlt
        subst hb3
        clear hbk
        go_wp2_with fail
        go_ret
        refine ⟨rfl, ?_⟩
        have hb1 := HB1.out
        repeat (first | (with_reducible exact Below.refl _ _) | (with_reducible refine Below.drew ?_) | (refine Below.setCell ?_ (by first | exact Nat.le_refl _ | (simp; done) | (simp; omega) | omega) _) | (refine Below.alloc ?_ (by first | exact Nat.le_refl _ | (simp; done) | (simp; omega) | omega) _) | (refine Below.trans ?_ (Below.mono (by assumption) (by first | exact Nat.le_refl _ | (simp; done) | (simp; omega) | omega))))
end Go.Proofs.YtfecnogmjfmghaaDoor
