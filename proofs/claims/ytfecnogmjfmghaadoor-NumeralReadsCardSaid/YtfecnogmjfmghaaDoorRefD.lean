/- The contracts of the reference's Good, held, plus. -/
import Derived.Test.YtfecnogmjfmghaaDoorRefC
namespace Go.Proofs.YtfecnogmjfmghaaDoor
set_option linter.unusedSimpArgs false
set_option linter.unusedVariables false
set_option linter.unnecessarySimpa false
open Go.RowKit

theorem len36 (m : Nat) : decide ((dig m).length ≤ 36) = decide (m < topN) := by
  rw [decide_eq_decide, dig_len_iff, topN_eq]
theorem len0 (m : Nat) : ((((dig m).length : Nat) : Int) == 0) = decide (m = 0) := by
  rw [Bool.eq_iff_iff, beq_iff_eq, decide_eq_true_eq]
  constructor
  · intro h
    by_cases hm : m = 0
    · exact hm
    · rw [dig_pos hm] at h; simp at h; omega
  · rintro rfl; rw [dig_zero]; rfl
theorem dig_m128 {m : Nat} (hm : m < 340282366920938463463374607431768211456) : (dig m).length ≤ 1000 := Nat.le_trans (dig_short (k := 40) (by omega) (by omega)) (by omega)

set_option maxHeartbeats 1000000 in
theorem rgood_any (n : Bool) (m : Nat) (hm : m < 340282366920938463463374607431768211456) (w : World) :
    Calls Tryd.prog 39 #[MV n m] w fun e w' => e = .returned (.bool (goodB n m)) ∧ Below w.heap.size w w' := by
  have C1 := Lib.hid (fun W => of_any n m hm W)
  by_cases h1 : m < topN
  · have a1 : decide ((dig m).length ≤ 36) = true := by rw [len36]; simpa using h1
    have a2 : decide ((((dig m).length : Nat) : Int) ≤ 36) = true := by rw [← a1, decide_eq_decide]; omega
    have a3 := len0 m
    have hg : Hid (goodB n m = !(n && decide (m = 0))) := by show _ = _; unfold goodB; simp [h1]
    clear h1 hm
    by_cases h0 : m = 0
    · have h0' : decide (m = 0) = true := by simpa using h0
      rw [h0'] at a3 hg
      clear h0 h0'
      cases n
      all_goals
        go_enter Tryd.func39, Tryd.ntmps39
        go_wp2_with fail
        refine (C1.out _).mono ?_
        rintro e w1 ⟨v, rfl, ⟨A, c, rfl, hI⟩, hb1⟩; have hz1 := hb1.size; (try simp at hz1)
        clear hI
        generalize (dig m).length = p at *
        go_wp2
        go_ret
        refine ⟨by rw [hg.out]; rfl, ?_⟩
        repeat (first | (with_reducible exact Below.refl _ _) | (with_reducible refine Below.drew ?_) | (refine Below.setCell ?_ (by first | exact Nat.le_refl _ | (simp; done) | (simp; omega) | omega) _) | (refine Below.alloc ?_ (by first | exact Nat.le_refl _ | (simp; done) | (simp; omega) | omega) _) | (refine Below.trans ?_ (Below.mono (by assumption) (by first | exact Nat.le_refl _ | (simp; done) | (simp; omega) | omega))))
    · have h0' : decide (m = 0) = false := by simpa using h0
      rw [h0'] at a3 hg
      clear h0 h0'
      cases n
      all_goals
        go_enter Tryd.func39, Tryd.ntmps39
        go_wp2_with fail
        refine (C1.out _).mono ?_
        rintro e w1 ⟨v, rfl, ⟨A, c, rfl, hI⟩, hb1⟩; have hz1 := hb1.size; (try simp at hz1)
        clear hI
        generalize (dig m).length = p at *
        go_wp2
        go_ret
        refine ⟨by rw [hg.out]; rfl, ?_⟩
        repeat (first | (with_reducible exact Below.refl _ _) | (with_reducible refine Below.drew ?_) | (refine Below.setCell ?_ (by first | exact Nat.le_refl _ | (simp; done) | (simp; omega) | omega) _) | (refine Below.alloc ?_ (by first | exact Nat.le_refl _ | (simp; done) | (simp; omega) | omega) _) | (refine Below.trans ?_ (Below.mono (by assumption) (by first | exact Nat.le_refl _ | (simp; done) | (simp; omega) | omega))))
  · have a1 : decide ((dig m).length ≤ 36) = false := by rw [len36]; simpa using h1
    have a2 : decide ((((dig m).length : Nat) : Int) ≤ 36) = false := by rw [← a1, decide_eq_decide]; omega
    have hg : Hid (goodB n m = false) := by show _ = _; unfold goodB; simp [h1]
    clear h1 hm
    go_enter Tryd.func39, Tryd.ntmps39
    go_wp2_with fail
    refine (C1.out _).mono ?_
    rintro e w1 ⟨v, rfl, ⟨A, c, rfl, hI⟩, hb1⟩; have hz1 := hb1.size; (try simp at hz1)
    clear hI
    generalize (dig m).length = p at *
    go_wp2
    go_ret
    refine ⟨by rw [hg.out]; rfl, ?_⟩
    repeat (first | (with_reducible exact Below.refl _ _) | (with_reducible refine Below.drew ?_) | (refine Below.setCell ?_ (by first | exact Nat.le_refl _ | (simp; done) | (simp; omega) | omega) _) | (refine Below.alloc ?_ (by first | exact Nat.le_refl _ | (simp; done) | (simp; omega) | omega) _) | (refine Below.trans ?_ (Below.mono (by assumption) (by first | exact Nat.le_refl _ | (simp; done) | (simp; omega) | omega))))

/-- A result of an operation of the reference: the number, and the error's number. -/
def heldN (n : Bool) (m : Nat) : Bool := n && decide (m < topN)
def RetHeld (n : Bool) (m c : Nat) (w : World) (e : Ending) (w' : World) : Prop := ∃ v, e = .returned (.tuple #[v, .int .i64 (c : Int)]) ∧ IsNum w' v n m ∧ Below w.heap.size w w'
end Go.Proofs.YtfecnogmjfmghaaDoor
