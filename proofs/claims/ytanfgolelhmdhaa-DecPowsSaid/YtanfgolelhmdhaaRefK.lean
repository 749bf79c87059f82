/- The reference's Whole. -/
import Derived.Test.YtanfgolelhmdhaaRefJ
import Derived.Test.YtanfgolelhmdhaaDecQ
namespace Go.Proofs.Ytanfgolelhmdhaa
set_option linter.unusedSimpArgs false
set_option linter.unusedVariables false
set_option linter.unnecessarySimpa false
open Go.RowKit

theorem len19 (q : Nat) : decide (19 < (dig q).length) = decide (10000000000000000000 ≤ q) := by
  rw [decide_eq_decide]
  have := dig_len_iff q 19
  omega
theorem drop_small {l : List Nat} (h : Digs l) {k : Nat} (hk : 1 ≤ k) (hl : l.length ≤ 19) : dval (l.drop k) < 1000000000000000000 := by
  have h1 := dval_lt (h.drop k)
  rw [List.length_drop] at h1
  have : (10 : Nat) ^ (l.length - k) ≤ 10 ^ 18 := Nat.pow_le_pow_right (by omega) (by omega)
  omega
set_option maxRecDepth 100000 in
set_option maxHeartbeats 4000000 in
theorem rwhole_any {v : Value} {n : Bool} {m : Nat} {w : World} (h : IsNum w v n m) (hl : (dig m).length ≤ 1000) :
    Calls Try.prog 36 #[v] w fun e w' => e = .returned (.tuple #[.int .i64 (whV n (m / 1000000)), .bool (whB n (m / 1000000))]) ∧ Below w.heap.size w w' := by
  obtain ⟨A, c, rfl, hI⟩ := h
  have C1 : Hid (∀ W, Below w.heap.size w W → Calls Try.prog 57 #[.slice A (dig m).length c] W fun e w' => ∃ A' c', e = .returned (.slice A' (dig (m / 1000000)).length c') ∧ Ints W A' c' (dig (m / 1000000)) ∧ W = w') :=
    fun W hW => lower_any (hI.on hW) hl
  clear hI hl
  generalize (dig m).length = p at *
  generalize m / 1000000 = q at *
  by_cases h19 : 10000000000000000000 ≤ q
  · have t1 : decide (19 < (dig q).length) = true := by rw [len19]; simpa using h19
    have t2 : (19 : Int) < (((dig q).length : Nat) : Int) := by have := t1; simp at this; omega
    have V : Hid (whV n q = 0) := by show _ = _; unfold whV whB; cases n <;> simp <;> omega
    have B : Hid (whB n q = false) := by show _ = _; unfold whB; cases n <;> simp <;> omega
    clear h19
    generalize hd : dig q = lq at *
    clear hd
    go_enter Try.func36, Try.ntmps36
    go_wp2_with fail
    refine (C1.out _ (by repeat (first | (with_reducible exact Below.refl _ _) | (with_reducible refine Below.drew ?_) | (refine Below.setCell ?_ (by first | exact Nat.le_refl _ | (simp; done) | (simp; omega) | omega) _) | (refine Below.alloc ?_ (by first | exact Nat.le_refl _ | (simp; done) | (simp; omega) | omega) _) | (refine Below.trans ?_ (Below.mono (by assumption) (by first | exact Nat.le_refl _ | (simp; done) | (simp; omega) | omega)))))).mono ?_
    rintro e w1 ⟨A1, c1, rfl, hI1, rfl⟩
    clear hI1
    generalize lq.length = r at *
    go_wp2
    go_ret2
    refine ⟨by rw [V.out, B.out]; rfl, ?_⟩
    repeat (first | (with_reducible exact Below.refl _ _) | (with_reducible refine Below.drew ?_) | (refine Below.setCell ?_ (by first | exact Nat.le_refl _ | (simp; done) | (simp; omega) | omega) _) | (refine Below.alloc ?_ (by first | exact Nat.le_refl _ | (simp; done) | (simp; omega) | omega) _) | (refine Below.trans ?_ (Below.mono (by assumption) (by first | exact Nat.le_refl _ | (simp; done) | (simp; omega) | omega))))
  · have t1 : decide (19 < (dig q).length) = false := by rw [len19]; simpa using h19
    have t2 : (((dig q).length : Nat) : Int) ≤ 19 := by have := t1; simp at this; omega
    have Hd := dig_lt q
    have Vq : Hid (dval (dig q) = q) := dval_dig q
    have hql : (dig q).length ≤ 19 := by omega
    have hq19 : q < 10000000000000000000 := by omega
    clear h19
    generalize hd : dig q = lq at *
    clear hd
    go_enter Try.func36, Try.ntmps36
    go_wp2_with fail
    refine (C1.out _ (by repeat (first | (with_reducible exact Below.refl _ _) | (with_reducible refine Below.drew ?_) | (refine Below.setCell ?_ (by first | exact Nat.le_refl _ | (simp; done) | (simp; omega) | omega) _) | (refine Below.alloc ?_ (by first | exact Nat.le_refl _ | (simp; done) | (simp; omega) | omega) _) | (refine Below.trans ?_ (Below.mono (by assumption) (by first | exact Nat.le_refl _ | (simp; done) | (simp; omega) | omega)))))).mono ?_
    rintro e w1 ⟨A1, c1, rfl, hI1, rfl⟩
    have HI1 := Lib.hid hI1; clear hI1
    have hB1 : Below w.heap.size w (w.alloc (.cells #[.bool n, .slice A p c] 35)) := by repeat (first | (with_reducible exact Below.refl _ _) | (with_reducible refine Below.drew ?_) | (refine Below.setCell ?_ (by first | exact Nat.le_refl _ | (simp; done) | (simp; omega) | omega) _) | (refine Below.alloc ?_ (by first | exact Nat.le_refl _ | (simp; done) | (simp; omega) | omega) _) | (refine Below.trans ?_ (Below.mono (by assumption) (by first | exact Nat.le_refl _ | (simp; done) | (simp; omega) | omega))))
    have k0 : (w.alloc (.cells #[.bool n, .slice A p c] 35)).cell? ⟨w.heap.size, 0, none⟩ = some (.bool n) := by go_simp
    generalize w.alloc (.cells #[.bool n, .slice A p c] 35) = w1 at *
    go_wp2
    go_loop [5, 6] (fun u i => ∃ k : Nat, k ≤ lq.length ∧ i = .int .i64 ((k : Int) - 1) ∧ ∃ U : Nat, u = .int .u64 (U : Int) ∧ Hid (U = dval (lq.drop k))) (fun _ i => (intOf i + 1).toNat)
    case atStart => exact ⟨lq.length, Nat.le_refl _, rfl, 0, rfl, by show _ = _; rw [List.drop_of_length_le (Nat.le_refl _)]; rfl⟩
    case round =>
      obtain ⟨k, hk, rfl, U, rfl, hU⟩ := hrel
      cases k with
      | zero =>
        have hUq : U = q := by rw [hU.out, ← Vq.out]; simp
        clear hU
        subst hUq
        clear Vq
        cases n
        · by_cases ho : U < 9223372036854775808
          · have hd : decide ((U : Int) < 9223372036854775808) = true := by simp; omega
            have V : Hid (whV false U = (U : Int)) := by show _ = _; unfold whV whB; simp [ho]
            have B : Hid (whB false U = true) := by show _ = _; unfold whB; simp [ho]
            have E := Lib.hid (back_pos ho)
            clear ho hq19
            go_wp2
            go_ret2
            refine ⟨?_, hB1⟩
            rw [V.out, B.out]; show Ending.returned (.tuple #[.int .i64 (wrap64 ((U : Nat) : Int)), .bool true]) = _; rw [E.out]
          · have hd : decide ((U : Int) < 9223372036854775808) = false := by simp; omega
            have V : Hid (whV false U = 0) := by show _ = _; unfold whV whB; simp [ho]
            have B : Hid (whB false U = false) := by show _ = _; unfold whB; simp [ho]
            clear ho hq19
            go_wp2
            go_ret2
            refine ⟨?_, hB1⟩
            rw [V.out, B.out]; rfl
        · by_cases ho : U ≤ 9223372036854775808
          · have hd : decide ((U : Int) ≤ 9223372036854775808) = true := by simp; omega
            have V : Hid (whV true U = -(U : Int)) := by show _ = _; unfold whV whB; simp [ho]
            have B : Hid (whB true U = true) := by show _ = _; unfold whB; simp [ho]
            have E := Lib.hid (back_neg ho)
            clear ho hq19
            go_wp2
            go_ret2
            refine ⟨?_, hB1⟩
            rw [V.out, B.out]; show Ending.returned (.tuple #[.int .i64 (wrap64 (IntKind.u64.wrap (-((U : Nat) : Int)))), .bool true]) = _; rw [E.out]
          · have hd : decide ((U : Int) ≤ 9223372036854775808) = false := by simp; omega
            have V : Hid (whV true U = 0) := by show _ = _; unfold whV whB; simp [ho]
            have B : Hid (whB true U = false) := by show _ = _; unfold whB; simp [ho]
            clear ho hq19
            go_wp2
            go_ret2
            refine ⟨?_, hB1⟩
            rw [V.out, B.out]; rfl
      | succ j =>
        have hjl : j < lq.length := by omega
        obtain ⟨b, off, rfl, hbb, hc⟩ := HI1.out.at_ (by rintro rfl; simp at hjl)
        have k1 := hc j hjl
        have g0 : (0 : Int) ≤ (j : Int) := by omega
        have g1 : (j : Int) < (lq.length : Int) := by omega
        have hx := Hd.getD j
        have hU18 : U < 1000000000000000000 := by rw [hU.out]; exact drop_small Hd (by omega) hql
        have HN : Hid (10 * U + lq.getD j 0 = dval (lq.drop j)) := by show _ = _; rw [drop_any lq j, hU.out]; omega
        clear hc hU
        generalize lq.getD j 0 = x at *
        have b1 : (U : Int) < 1000000000000000000 := by omega
        have b2 : (x : Int) < 10 := by omega
        have wr1 : IntKind.u64.wrap (10 * (U : Int)) = 10 * (U : Int) := by rw [IntKind.wrap_u64]; omega
        have wr2 : IntKind.u64.wrap (x : Int) = (x : Int) := by rw [IntKind.wrap_u64]; omega
        have wr3 : IntKind.u64.wrap (10 * (U : Int) + (x : Int)) = 10 * (U : Int) + (x : Int) := by rw [IntKind.wrap_u64]; omega
        go_wp2
        go_round
        case rel => exact ⟨j, by omega, by go_num, 10 * U + x, by go_num, HN⟩
        case measure => simp [intOf]
end Go.Proofs.Ytanfgolelhmdhaa
