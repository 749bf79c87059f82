/- Bracket of charset at a place that is no place of a bracket. -/
import Derived.Test.YtfmekmbdienbjaaDoorSetM
namespace Go.Proofs.YtfmekmbdienbjaaDoor
set_option linter.unusedSimpArgs false
set_option linter.unusedVariables false
set_option linter.unnecessarySimpa false
open Go.RowKit

set_option maxRecDepth 100000 in
set_option maxHeartbeats 8000000 in
theorem brk_arg {v : Value} {l : List UInt8} {w : World} (h : BS w v l) (at_ : Int) (hat : ∀ k : Nat, at_ = (k : Int) → isL l k 91 = false) :
    Calls Tryd.prog 7 #[v, .int .i64 at_] w fun e w' => BadR w e w' 0 1 := by
  have HF : Hid (∀ w, Calls Tryd.prog 22 #[.int .i64 0, .int .i64 1] w fun e w' => e = .returned (.iface 50 (.pointer (some ⟨w.heap.size, 0, none⟩))) ∧ w' = w.alloc (.cells #[.int .i64 0, .iface 65 (.int .i64 1)] 54)) := fun w => fault_u 0 1 w
  have r0 : Row (w.alloc (.cells zA 26)) w.heap.size 26 zA := Row.new w _ _
  have hB : Below w.heap.size w (w.alloc (.cells zA 26)) := (Below.refl _ _).alloc (Nat.le_refl _) _
  obtain ⟨p, cp, rfl, hlc, hcm, hU⟩ := h
  have HU := Lib.hid hU
  clear hU
  by_cases h0 : at_ < 0
  · have t0 : decide (at_ < 0) = true := decide_eq_true h0
    clear hat HU
    go_enter Tryd.func7, Tryd.ntmps7
    go_upto_region 1 with fail
    generalize (w.alloc (.cells zA 26)) = w1 at *
    obtain ⟨k0, k1, k2, k3, f0, f1, f2, f3, z0⟩ := r0.four
    go_wp2_with (go_at_call 22; refine (HF.out _).mono ?_; rintro e w' ⟨rfl, rfl⟩)
    refine bodyPost_ret (v := .tuple #[zeroV, .int .i64 0, .iface 50 (.pointer (some ⟨w1.heap.size, 0, none⟩))]) (by simp [results, Tryd.results7, go_sem, *]) rfl ?_
    refine ⟨_, rfl, hB.size, Row.new' (by simp), ?_⟩
    repeat (first | (with_reducible exact Below.refl _ _) | (with_reducible refine Below.drew ?_) | (refine Below.setCell ?_ (by first | exact Nat.le_refl _ | (simp; done) | (simp; omega) | omega) _) | (refine Below.alloc ?_ (by first | exact Nat.le_refl _ | (simp; done) | (simp; omega) | omega) _) | (refine Below.trans ?_ (Below.mono (by assumption) (by first | exact Nat.le_refl _ | (simp; done) | (simp; omega) | omega))))
  · have t0 : decide (at_ < 0) = false := decide_eq_false h0
    obtain ⟨k, rfl⟩ := Int.eq_ofNat_of_zero_le (Int.not_lt.1 h0)
    have hf := hat k rfl
    by_cases hlt : k < l.length
    · obtain ⟨bk, off, rfl, hbb, hcs⟩ := HU.out (by rintro rfl; simp at hlt)
      have kc0 := hcs k hlt
      have hne : l.getD k 0 ≠ 91 := by
        intro e; unfold isL at hf; rw [decide_eq_true hlt, e] at hf; simp at hf
      have t3 : (((l.getD k 0).toNat : Int) == 91) = false := by
        rw [beq_eq_false_iff_ne]; intro e; exact hne (UInt8.toNat_inj.1 (by show _ = 91; omega))
      have t4 : (((l.getD k 0).toNat : Int) != 91) = true := by rw [bne, t3]; rfl
      have hlt' : (k : Int) < (l.length : Int) := by omega
      have t2 : decide (l.length ≤ k) = false := decide_eq_false (by omega)
      have hge : (0 : Int) ≤ (k : Int) := by omega
      unfold bv at kc0
      clear hat HU hcs hne hf
      generalize (l.getD k 0).toNat = y at *
      go_enter Tryd.func7, Tryd.ntmps7
      go_upto_region 1 with fail
      have kc : (w.alloc (.cells zA 26)).cell? ⟨bk, off + k, none⟩ = some (.int .u8 (y : Int)) := by rw [World.cell?_alloc_lt _ _ ⟨bk, off + k, none⟩ hbb]; exact kc0
      clear kc0
      generalize (w.alloc (.cells zA 26)) = w1 at *
      obtain ⟨k0, k1, k2, k3, f0, f1, f2, f3, z0⟩ := r0.four
      go_wp2_with (go_at_call 22; refine (HF.out _).mono ?_; rintro e w' ⟨rfl, rfl⟩)
      refine bodyPost_ret (v := .tuple #[zeroV, .int .i64 0, .iface 50 (.pointer (some ⟨w1.heap.size, 0, none⟩))]) (by simp [results, Tryd.results7, go_sem, *]) rfl ?_
      refine ⟨_, rfl, hB.size, Row.new' (by simp), ?_⟩
      repeat (first | (with_reducible exact Below.refl _ _) | (with_reducible refine Below.drew ?_) | (refine Below.setCell ?_ (by first | exact Nat.le_refl _ | (simp; done) | (simp; omega) | omega) _) | (refine Below.alloc ?_ (by first | exact Nat.le_refl _ | (simp; done) | (simp; omega) | omega) _) | (refine Below.trans ?_ (Below.mono (by assumption) (by first | exact Nat.le_refl _ | (simp; done) | (simp; omega) | omega))))
    · have t2 : decide (l.length ≤ k) = true := decide_eq_true (by omega)
      clear hat HU hf
      go_enter Tryd.func7, Tryd.ntmps7
      go_upto_region 1 with fail
      generalize (w.alloc (.cells zA 26)) = w1 at *
      obtain ⟨k0, k1, k2, k3, f0, f1, f2, f3, z0⟩ := r0.four
      go_wp2_with (go_at_call 22; refine (HF.out _).mono ?_; rintro e w' ⟨rfl, rfl⟩)
      refine bodyPost_ret (v := .tuple #[zeroV, .int .i64 0, .iface 50 (.pointer (some ⟨w1.heap.size, 0, none⟩))]) (by simp [results, Tryd.results7, go_sem, *]) rfl ?_
      refine ⟨_, rfl, hB.size, Row.new' (by simp), ?_⟩
      repeat (first | (with_reducible exact Below.refl _ _) | (with_reducible refine Below.drew ?_) | (refine Below.setCell ?_ (by first | exact Nat.le_refl _ | (simp; done) | (simp; omega) | omega) _) | (refine Below.alloc ?_ (by first | exact Nat.le_refl _ | (simp; done) | (simp; omega) | omega) _) | (refine Below.trans ?_ (Below.mono (by assumption) (by first | exact Nat.le_refl _ | (simp; done) | (simp; omega) | omega))))
end Go.Proofs.YtfmekmbdienbjaaDoor
