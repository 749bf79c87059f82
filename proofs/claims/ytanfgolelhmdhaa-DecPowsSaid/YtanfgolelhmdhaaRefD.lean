/- The contracts of the reference's Good, held, plus. -/
import Derived.Test.YtanfgolelhmdhaaRefC
namespace Go.Proofs.Ytanfgolelhmdhaa
set_option linter.unusedSimpArgs false
set_option linter.unusedVariables false
set_option linter.unnecessarySimpa false
open Go.RowKit

theorem len36 (m : Nat) : decide ((dig m).length ≤ 36) = decide (m < topN) := by
  rw [decide_eq_decide, dig_len_iff, topN_eq]
theorem len0 (m : Nat) : ((((dig m).length : Nat) : Int) == 0) = decide (m = 0) := by
  rw [Bool.eq_iff_iff, beq_iff_eq, decide_eq_true_eq]
  constructor
  · intro h
    by_cases hm : m = 0
    · exact hm
    · rw [dig_pos hm] at h; simp at h; omega
  · rintro rfl; rw [dig_zero]; rfl
theorem dig_m128 {m : Nat} (hm : m < 340282366920938463463374607431768211456) : (dig m).length ≤ 1000 := Nat.le_trans (dig_short (k := 40) (by omega) (by omega)) (by omega)

set_option maxHeartbeats 1000000 in
theorem rgood_any (n : Bool) (m : Nat) (hm : m < 340282366920938463463374607431768211456) (w : World) :
    Calls Try.prog 16 #[MV n m] w fun e w' => e = .returned (.bool (goodB n m)) ∧ Below w.heap.size w w' := by
  have C1 := Lib.hid (fun W => of_any n m hm W)
  by_cases h1 : m < topN
  · have a1 : decide ((dig m).length ≤ 36) = true := by rw [len36]; simpa using h1
    have a2 : decide ((((dig m).length : Nat) : Int) ≤ 36) = true := by rw [← a1, decide_eq_decide]; omega
    have a3 := len0 m
    have hg : Hid (goodB n m = !(n && decide (m = 0))) := by show _ = _; unfold goodB; simp [h1]
    clear h1 hm
    by_cases h0 : m = 0
    · have h0' : decide (m = 0) = true := by simpa using h0
      rw [h0'] at a3 hg
      clear h0 h0'
      cases n
      all_goals
        go_enter Try.func16, Try.ntmps16
        go_wp2_with fail
        refine (C1.out _).mono ?_
        rintro e w1 ⟨v, rfl, ⟨A, c, rfl, hI⟩, hb1⟩; have hz1 := hb1.size; (try simp at hz1)
        clear hI
        generalize (dig m).length = p at *
        go_wp2
        go_ret
        refine ⟨by rw [hg.out]; rfl, ?_⟩
        repeat (first | (with_reducible exact Below.refl _ _) | (with_reducible refine Below.drew ?_) | (refine Below.setCell ?_ (by first | exact Nat.le_refl _ | (simp; done) | (simp; omega) | omega) _) | (refine Below.alloc ?_ (by first | exact Nat.le_refl _ | (simp; done) | (simp; omega) | omega) _) | (refine Below.trans ?_ (Below.mono (by assumption) (by first | exact Nat.le_refl _ | (simp; done) | (simp; omega) | omega))))
    · have h0' : decide (m = 0) = false := by simpa using h0
      rw [h0'] at a3 hg
      clear h0 h0'
      cases n
      all_goals
        go_enter Try.func16, Try.ntmps16
        go_wp2_with fail
        refine (C1.out _).mono ?_
        rintro e w1 ⟨v, rfl, ⟨A, c, rfl, hI⟩, hb1⟩; have hz1 := hb1.size; (try simp at hz1)
        clear hI
        generalize (dig m).length = p at *
        go_wp2
        go_ret
        refine ⟨by rw [hg.out]; rfl, ?_⟩
        repeat (first | (with_reducible exact Below.refl _ _) | (with_reducible refine Below.drew ?_) | (refine Below.setCell ?_ (by first | exact Nat.le_refl _ | (simp; done) | (simp; omega) | omega) _) | (refine Below.alloc ?_ (by first | exact Nat.le_refl _ | (simp; done) | (simp; omega) | omega) _) | (refine Below.trans ?_ (Below.mono (by assumption) (by first | exact Nat.le_refl _ | (simp; done) | (simp; omega) | omega))))
  · have a1 : decide ((dig m).length ≤ 36) = false := by rw [len36]; simpa using h1
    have a2 : decide ((((dig m).length : Nat) : Int) ≤ 36) = false := by rw [← a1, decide_eq_decide]; omega
    have hg : Hid (goodB n m = false) := by show _ = _; unfold goodB; simp [h1]
    clear h1 hm
    go_enter Try.func16, Try.ntmps16
    go_wp2_with fail
    refine (C1.out _).mono ?_
    rintro e w1 ⟨v, rfl, ⟨A, c, rfl, hI⟩, hb1⟩; have hz1 := hb1.size; (try simp at hz1)
    clear hI
    generalize (dig m).length = p at *
    go_wp2
    go_ret
    refine ⟨by rw [hg.out]; rfl, ?_⟩
    repeat (first | (with_reducible exact Below.refl _ _) | (with_reducible refine Below.drew ?_) | (refine Below.setCell ?_ (by first | exact Nat.le_refl _ | (simp; done) | (simp; omega) | omega) _) | (refine Below.alloc ?_ (by first | exact Nat.le_refl _ | (simp; done) | (simp; omega) | omega) _) | (refine Below.trans ?_ (Below.mono (by assumption) (by first | exact Nat.le_refl _ | (simp; done) | (simp; omega) | omega))))

/-- A result of an operation of the reference: the number, and the error's number. -/
def heldN (n : Bool) (m : Nat) : Bool := n && decide (m < topN)
def RetHeld (n : Bool) (m c : Nat) (w : World) (e : Ending) (w' : World) : Prop := ∃ v, e = .returned (.tuple #[v, .int .i64 (c : Int)]) ∧ IsNum w' v n m ∧ Below w.heap.size w w'
set_option maxHeartbeats 1000000 in
theorem rheld_any {v : Value} {n : Bool} {m : Nat} {w : World} (h : IsNum w v n m) :
    Calls Try.prog 52 #[v] w (RetHeld (heldN n m) (fitQ m) (fitC m) w) := by
  obtain ⟨A, c, rfl, hI⟩ := h
  have HI := Lib.hid hI
  clear hI
  by_cases h1 : m < topN
  · have a1 : decide (36 < (dig m).length) = false := by
      have := len36 m
      rw [decide_eq_decide] at this
      rw [decide_eq_false_iff_not]; omega
    have a2 : decide ((36 : Int) < (((dig m).length : Nat) : Int)) = false := by rw [← a1, decide_eq_decide]; omega
    have e1 : Hid (heldN n m = n) := by show _ = _; unfold heldN; simp [h1]
    have e2 : Hid (fitQ m = m) := by show _ = _; unfold fitQ; simp [h1]
    have e3 : Hid (fitC m = 0) := by show _ = _; unfold fitC; simp [h1]
    clear h1
    generalize hp : (dig m).length = p at *
    have Hp := Lib.hid hp; clear hp
    go_enter Try.func52, Try.ntmps52
    go_wp2
    refine bodyPost_ret (v := .tuple #[.agg #[.bool n, .slice A p c], .int .i64 0]) (by simp [results, Try.results52, go_sem, *]) rfl ⟨_, by rw [e3.out]; rfl, ?_, ?_⟩
    · rw [e1.out, e2.out]
      refine ⟨A, c, by rw [Hp.out], HI.out.on ?_⟩
      repeat (first | (with_reducible exact Below.refl _ _) | (with_reducible refine Below.drew ?_) | (refine Below.setCell ?_ (by first | exact Nat.le_refl _ | (simp; done) | (simp; omega) | omega) _) | (refine Below.alloc ?_ (by first | exact Nat.le_refl _ | (simp; done) | (simp; omega) | omega) _) | (refine Below.trans ?_ (Below.mono (by assumption) (by first | exact Nat.le_refl _ | (simp; done) | (simp; omega) | omega))))
    · repeat (first | (with_reducible exact Below.refl _ _) | (with_reducible refine Below.drew ?_) | (refine Below.setCell ?_ (by first | exact Nat.le_refl _ | (simp; done) | (simp; omega) | omega) _) | (refine Below.alloc ?_ (by first | exact Nat.le_refl _ | (simp; done) | (simp; omega) | omega) _) | (refine Below.trans ?_ (Below.mono (by assumption) (by first | exact Nat.le_refl _ | (simp; done) | (simp; omega) | omega))))
  · have a1 : decide (36 < (dig m).length) = true := by
      have := len36 m
      rw [decide_eq_decide] at this
      rw [decide_eq_true_eq]; omega
    have a2 : decide ((36 : Int) < (((dig m).length : Nat) : Int)) = true := by rw [← a1, decide_eq_decide]; omega
    have e1 : Hid (heldN n m = false) := by show _ = _; unfold heldN; simp [h1]
    have e2 : Hid (fitQ m = 0) := by show _ = _; unfold fitQ; simp [h1]
    have e3 : Hid (fitC m = 2) := by show _ = _; unfold fitC; simp [h1]
    clear h1
    generalize (dig m).length = p at *
    go_enter Try.func52, Try.ntmps52
    go_wp2
    refine bodyPost_ret (v := .tuple #[.agg #[.bool false, .slice none 0 0], .int .i64 2]) (by simp [results, Try.results52, go_sem, *]) rfl ⟨_, by rw [e3.out]; rfl, ?_, ?_⟩
    · rw [e1.out, e2.out]
      exact ⟨none, 0, by rw [dig_zero]; rfl, by rw [dig_zero]; exact Ints.nil _⟩
    · repeat (first | (with_reducible exact Below.refl _ _) | (with_reducible refine Below.drew ?_) | (refine Below.setCell ?_ (by first | exact Nat.le_refl _ | (simp; done) | (simp; omega) | omega) _) | (refine Below.alloc ?_ (by first | exact Nat.le_refl _ | (simp; done) | (simp; omega) | omega) _) | (refine Below.trans ?_ (Below.mono (by assumption) (by first | exact Nat.le_refl _ | (simp; done) | (simp; omega) | omega))))
end Go.Proofs.Ytanfgolelhmdhaa
