/- The document's own Escape. -/
import Derived.Test.YtfmekmbdienbjaaDoorSetD
namespace Go.Proofs.YtfmekmbdienbjaaDoor
set_option linter.unusedSimpArgs false
set_option linter.unusedVariables false
set_option linter.unnecessarySimpa false
open Go.RowKit

theorem u8_beq {a b : UInt8} (h : a ≠ b) : ((a.toNat : Int) == (b.toNat : Int)) = false := by
  rw [beq_eq_false_iff_ne]; intro e; exact h (UInt8.toNat_inj.1 (by exact_mod_cast e))
set_option maxRecDepth 100000 in
set_option maxHeartbeats 8000000 in
theorem resc_u (c : UInt8) (w : World) :
    Calls Tryd.prog 46 #[bv c] w fun e w' => e = .returned (bv (escU c)) ∧ w = w' := by
  obtain ⟨d, hd⟩ : ∃ d, d = escU c := ⟨_, rfl⟩
  rw [← hd]
  unfold escU at hd
  have HD := Lib.hid hd
  clear hd
  have key : ∀ n : UInt8, c ≠ n → ((c.toNat : Int) == (n.toNat : Int)) = false := fun n h => u8_beq h
  by_cases h0 : c = 110
  · obtain rfl : d = 10 := by rw [HD.out, if_pos h0]
    subst h0
    clear HD key
    go_enter Tryd.func46, Tryd.ntmps46
    go_wp2
    go_ret
    exact ⟨rfl, rfl⟩
  have t0 : ((c.toNat : Int) == 110) = false := key 110 h0
  by_cases h1 : c = 116
  · obtain rfl : d = 9 := by rw [HD.out, if_neg h0, if_pos h1]
    subst h1
    clear HD key t0 h0
    go_enter Tryd.func46, Tryd.ntmps46
    go_wp2
    go_ret
    exact ⟨rfl, rfl⟩
  have t1 : ((c.toNat : Int) == 116) = false := key 116 h1
  by_cases h2 : c = 114
  · obtain rfl : d = 13 := by rw [HD.out, if_neg h0, if_neg h1, if_pos h2]
    subst h2
    clear HD key t0 h0 t1 h1
    go_enter Tryd.func46, Tryd.ntmps46
    go_wp2
    go_ret
    exact ⟨rfl, rfl⟩
  have t2 : ((c.toNat : Int) == 114) = false := key 114 h2
  by_cases h3 : c = 102
  · obtain rfl : d = 12 := by rw [HD.out, if_neg h0, if_neg h1, if_neg h2, if_pos h3]
    subst h3
    clear HD key t0 h0 t1 h1 t2 h2
    go_enter Tryd.func46, Tryd.ntmps46
    go_wp2
    go_ret
    exact ⟨rfl, rfl⟩
  have t3 : ((c.toNat : Int) == 102) = false := key 102 h3
  by_cases h4 : c = 118
  · obtain rfl : d = 11 := by rw [HD.out, if_neg h0, if_neg h1, if_neg h2, if_neg h3, if_pos h4]
    subst h4
    clear HD key t0 h0 t1 h1 t2 h2 t3 h3
    go_enter Tryd.func46, Tryd.ntmps46
    go_wp2
    go_ret
    exact ⟨rfl, rfl⟩
  have t4 : ((c.toNat : Int) == 118) = false := key 118 h4
  by_cases h5 : c = 97
  · obtain rfl : d = 7 := by rw [HD.out, if_neg h0, if_neg h1, if_neg h2, if_neg h3, if_neg h4, if_pos h5]
    subst h5
    clear HD key t0 h0 t1 h1 t2 h2 t3 h3 t4 h4
    go_enter Tryd.func46, Tryd.ntmps46
    go_wp2
    go_ret
    exact ⟨rfl, rfl⟩
  have t5 : ((c.toNat : Int) == 97) = false := key 97 h5
  by_cases h6 : c = 98
  · obtain rfl : d = 8 := by rw [HD.out, if_neg h0, if_neg h1, if_neg h2, if_neg h3, if_neg h4, if_neg h5, if_pos h6]
    subst h6
    clear HD key t0 h0 t1 h1 t2 h2 t3 h3 t4 h4 t5 h5
    go_enter Tryd.func46, Tryd.ntmps46
    go_wp2
    go_ret
    exact ⟨rfl, rfl⟩
  have t6 : ((c.toNat : Int) == 98) = false := key 98 h6
  obtain rfl : d = c := by rw [HD.out, if_neg h0, if_neg h1, if_neg h2, if_neg h3, if_neg h4, if_neg h5, if_neg h6]
  clear HD key h0 h1 h2 h3 h4 h5 h6
  unfold bv
  generalize (d.toNat : Int) = x at *
  go_enter Tryd.func46, Tryd.ntmps46
  go_wp2
  go_ret
  exact ⟨rfl, rfl⟩
end Go.Proofs.YtfmekmbdienbjaaDoor
