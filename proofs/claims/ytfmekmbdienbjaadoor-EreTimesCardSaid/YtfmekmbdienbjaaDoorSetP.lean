/- Code and place of an error at a place. -/
import Derived.Test.YtfmekmbdienbjaaDoorSetZ
namespace Go.Proofs.YtfmekmbdienbjaaDoor
set_option linter.unusedSimpArgs false
set_option linter.unusedVariables false
set_option linter.unnecessarySimpa false
open Go.RowKit Go.Extern.Stop Go.Stop Go.Extern

theorem isf_same (b c : Nat) (w : World) (hc : w.cell? ⟨b, 1, none⟩ = some (.iface 65 (.int .i64 (c : Int)))) : Calls Tryd.prog 30 #[.iface 50 (.pointer (some ⟨b, 0, none⟩)), .iface 65 (.int .i64 (c : Int))] w fun e w' => e = .returned (.bool true) ∧ w = w' := by
  have h := is_fault b 0 (c : Int) (c : Int) w hc
  rw [beq_self_eq_true] at h
  exact h
theorem isf_other (b c k : Nat) (hk : k ≠ c) (w : World) (hc : w.cell? ⟨b, 1, none⟩ = some (.iface 65 (.int .i64 (c : Int)))) : Calls Tryd.prog 30 #[.iface 50 (.pointer (some ⟨b, 0, none⟩)), .iface 65 (.int .i64 (k : Int))] w fun e w' => e = .returned (.bool false) ∧ w = w' := by
  have h := is_fault b 0 (c : Int) (k : Int) w hc
  have e : ((c : Int) == (k : Int)) = false := by rw [beq_eq_false_iff_ne]; omega
  rw [e] at h
  exact h
theorem code_fault (b c : Nat) (h1 : 1 ≤ c) (h25 : c ≤ 25) (w : World) (hc : w.cell? ⟨b, 1, none⟩ = some (.iface 65 (.int .i64 (c : Int)))) :
    Calls Tryd.prog 9 #[.iface 50 (.pointer (some ⟨b, 0, none⟩))] w fun e w' => e = .returned (.int .i64 (c : Int)) ∧ w = w' := by
  have HC := Lib.hid hc
  clear hc
  go_enter Tryd.func9, Tryd.ntmps9
  go_upto_region 4 with fail
  go_loop [3] (fun t3 => ∃ k : Nat, 1 ≤ k ∧ k ≤ c ∧ t3 = .int .i64 (k : Int)) (fun t3 => 26 - (intOf t3).toNat)
  case atStart => exact ⟨1, by omega, h1, rfl⟩
  case round =>
    obtain ⟨k, hk1, hkc, rfl⟩ := hrel
    have ht : (k : Int) ≤ 25 := by omega
    by_cases hk : k = c
    · have C := Lib.hid (isf_same b c w HC.out)
      subst hk
      go_wp2_with (go_at_call 30; refine (C.out).mono ?_; rintro e w1 ⟨rfl, rfl⟩)
      go_ret
      exact ⟨rfl, rfl⟩
    · have C := Lib.hid (isf_other b c k hk w HC.out)
      have Hk := Lib.hid hk
      clear hk
      go_wp2_with (go_at_call 30; refine (C.out).mono ?_; rintro e w1 ⟨rfl, rfl⟩)
      go_round
      case rel => exact ⟨k + 1, by omega, by have := Hk.out; omega, by go_num⟩
      case measure => simp [intOf]; omega

/-- The library's own variable holds what the program's text lays. -/
def HE (w : World) : Prop := w.cell? ⟨0, 0, none⟩ = some (.iface 105 (.agg #[hnd 28])) ∧ 0 < w.heap.size
theorem HE.on {w w' : World} (h : HE w) (k : Below w.heap.size w w') : HE w' :=
  ⟨(k.cell (p := ⟨0, 0, none⟩) h.2).trans h.1, Nat.lt_of_lt_of_le h.2 k.size⟩
set_option maxRecDepth 100000 in
set_option maxHeartbeats 4000000 in
theorem place_fault (b : Nat) (a : Int) (w : World) (hE : HE w) (hb : b < w.heap.size) (hc : w.cell? ⟨b, 0, none⟩ = some (.int .i64 a)) :
    Calls Tryd.prog 11 #[.iface 50 (.pointer (some ⟨b, 0, none⟩))] w fun e w' => e = .returned (.int .i64 a) ∧ Below w.heap.size w w' := by
  have hB1 : Below w.heap.size w (w.alloc (.cells #[.pointer none] 50)) := (Below.refl _ _).alloc (Nat.le_refl _) _
  have H := as_hit ⟨b, 0, none⟩ ⟨w.heap.size, 0, none⟩ (.pointer none) (w.alloc (.cells #[.pointer none] 50)) (hE.on hB1).1 (by simp) (by simp)
  have HW : ∀ u, u = (((((w.alloc (.cells #[.pointer none] 50)).alloc (.cells #[.pointer (some ⟨w.heap.size, 0, none⟩)] 52)).alloc (.cells #[hnd 52, .pointer (some ⟨(w.alloc (.cells #[.pointer none] 50)).heap.size, 0, none⟩), .int .u64 150] 82)).alloc (.cells #[hnd 52, .pointer (some ⟨(w.alloc (.cells #[.pointer none] 50)).heap.size, 0, none⟩), .int .u64 150] 82)).alloc (.cells #[.pointer (some ⟨b, 0, none⟩)] 50)).setCell ⟨w.heap.size, 0, none⟩ (.pointer (some ⟨b, 0, none⟩)) →
      Below w.heap.size w u ∧ u.cell? ⟨w.heap.size, 0, none⟩ = some (.pointer (some ⟨b, 0, none⟩)) := by
    intro u hu
    subst hu
    refine ⟨?_, ?_⟩
    · refine Below.setCell (B := w.heap.size) ?_ (by show w.heap.size ≤ w.heap.size; exact Nat.le_refl _) _
      refine Below.alloc ?_ (by simp; omega) _
      refine Below.alloc ?_ (by simp; omega) _
      refine Below.alloc ?_ (by simp; omega) _
      refine Below.alloc hB1 (by simp) _
    · refine cell_same ⟨.pointer none, ?_⟩
      rw [World.cell?_alloc_lt _ _ ⟨w.heap.size, 0, none⟩ (by simp; omega), World.cell?_alloc_lt _ _ ⟨w.heap.size, 0, none⟩ (by simp; omega), World.cell?_alloc_lt _ _ ⟨w.heap.size, 0, none⟩ (by simp; omega), World.cell?_alloc_lt _ _ ⟨w.heap.size, 0, none⟩ (by simp)]
      simp
  have H2 : Hid (Calls Tryd.prog 15 #[.iface 50 (.pointer (some ⟨b, 0, none⟩)), .iface 52 (.pointer (some ⟨w.heap.size, 0, none⟩))] (w.alloc (.cells #[.pointer none] 50)) fun ev w' => ev = .returned (.bool true) ∧ Below w.heap.size w w' ∧ w'.cell? ⟨w.heap.size, 0, none⟩ = some (.pointer (some ⟨b, 0, none⟩))) := by
    refine H.mono ?_
    rintro e w' ⟨he, hw⟩
    exact ⟨he, HW w' hw⟩
  clear H HW hE
  go_enter Tryd.func11, Tryd.ntmps11
  go_wp2_with fail
  refine (H2.out).mono ?_
  rintro e u ⟨rfl, hBu, k0⟩
  (try dsimp only)
  have k1 : u.cell? ⟨b, 0, none⟩ = some (.int .i64 a) := (hBu.cell (p := ⟨b, 0, none⟩) hb).trans hc
  clear hc
  go_wp2
  go_ret
  exact ⟨rfl, hBu⟩
end Go.Proofs.YtfmekmbdienbjaaDoor
