/- The walk of the statement DecUnits: the number 0, where Div answers error 3; and all together. -/
import Derived.Test.YtdoahjiahdeflaaDecUnitsB
namespace Go.Proofs.Ytdoahjiahdeflaa
open Go.RowKit
set_option linter.unusedSimpArgs false
set_option linter.unusedVariables false

theorem div_00 : ∀ w, Calls Try.prog 25 #[.agg #[.bool false, .int .u64 0, .int .u64 0], .agg #[.bool false, .int .u64 0, .int .u64 0]] w fun e w' => e = .returned (.tuple #[.agg #[.bool false, .int .u64 0, .int .u64 0], .iface 51 (.int .i64 3)]) ∧ Below w.heap.size w w' := fun w => div_0 0 zero_top w
theorem code_3 : ∀ w, Calls Try.prog 17 #[.iface 51 (.int .i64 3)] w fun e w' => e = .returned (.int .i64 3) ∧ w = w' := fun w => code_v 3 (by decide) w
theorem good0 : ∀ w, Calls Try.prog 15 #[(.agg #[.bool false, .int .u64 0, .int .u64 0])] w fun e w' => e = .returned (.bool true) ∧ Below w.heap.size w w' := fun w => good_z' zero_top w
theorem mul0 : ∀ w, Calls Try.prog 24 #[(.agg #[.bool false, .int .u64 0, .int .u64 0]), ZV 1000000] w fun e w' => e = .returned (.tuple #[(.agg #[.bool false, .int .u64 0, .int .u64 0]), .nilIface]) ∧ Below w.heap.size w w' := fun w => mul_one_w zero_top w
theorem div0 : ∀ w, Calls Try.prog 25 #[(.agg #[.bool false, .int .u64 0, .int .u64 0]), ZV 1000000] w fun e w' => e = .returned (.tuple #[(.agg #[.bool false, .int .u64 0, .int .u64 0]), .nilIface]) ∧ Below w.heap.size w w' := fun w => div_one_w zero_top w
theorem pow0 : ∀ w, Calls Try.prog 30 #[(.agg #[.bool false, .int .u64 0, .int .u64 0]), ZV 1000000] w fun e w' => e = .returned (.tuple #[(.agg #[.bool false, .int .u64 0, .int .u64 0]), .nilIface]) ∧ Below w.heap.size w w' := fun w => pow_one_w zero_top w
theorem pow00 : ∀ w, Calls Try.prog 30 #[(.agg #[.bool false, .int .u64 0, .int .u64 0]), (.agg #[.bool false, .int .u64 0, .int .u64 0])] w fun e w' => e = .returned (.tuple #[ZV 1000000, .nilIface]) ∧ Below w.heap.size w w' := fun w => pow_zero_w zero_top w

set_option maxHeartbeats 4000000 in
theorem units_0 (w : World) :
    Calls Try.prog 10 #[.agg #[.bool false, .int .u64 0, .int .u64 0]] w fun e w' => e = .returned (.bool true) ∧ Below w.heap.size w w' := by
  have C0 := Lib.hid awake_t
  have C1 := Lib.hid good0
  have C2 := Lib.hid one_w
  have C3 := Lib.hid mul0
  have C4 := Lib.hid div0
  have C5 := Lib.hid pow0
  have C6 := Lib.hid pow00
  have C7 := Lib.hid div_00
  have C8 := Lib.hid code_3
  go_enter Try.func10, Try.ntmps10
  go_wp2_with fail; refine (C0.out _).mono ?_; rintro ew1 w1 ⟨rfl, hbw1⟩; obtain ⟨hcw1, hfw1⟩ := bcell hbw1; (try simp only [World.size_drew, World.cell?_drew, World.frozen?_drew] at hcw1 hfw1); have hzw1 := hbw1.size; (try simp at hzw1); have : w.heap.size < w1.heap.size := (by omega); (try dsimp only)
  go_wp2_with fail; refine (C1.out _).mono ?_; rintro ew2 w2 ⟨rfl, hbw2⟩; obtain ⟨hcw2, hfw2⟩ := bcell hbw2; (try simp only [World.size_drew, World.cell?_drew, World.frozen?_drew] at hcw2 hfw2); have hzw2 := hbw2.size; (try simp at hzw2); have : w.heap.size < w2.heap.size := (by omega); (try dsimp only)
  go_wp2_with fail; refine (C2.out _).mono ?_; rintro ew3 w3 ⟨rfl, hbw3⟩; obtain ⟨hcw3, hfw3⟩ := bcell hbw3; (try simp only [World.size_drew, World.cell?_drew, World.frozen?_drew] at hcw3 hfw3); have hzw3 := hbw3.size; (try simp at hzw3); have : w.heap.size < w3.heap.size := (by omega); (try dsimp only)
  go_wp2_with fail; refine (C3.out _).mono ?_; rintro ew4 w4 ⟨rfl, hbw4⟩; obtain ⟨hcw4, hfw4⟩ := bcell hbw4; (try simp only [World.size_drew, World.cell?_drew, World.frozen?_drew] at hcw4 hfw4); have hzw4 := hbw4.size; (try simp at hzw4); have : w.heap.size < w4.heap.size := (by omega); (try dsimp only)
  have : w3.heap.size < w4.heap.size := by omega
  go_wp2_with fail; refine (C4.out _).mono ?_; rintro ew5 w5 ⟨rfl, hbw5⟩; obtain ⟨hcw5, hfw5⟩ := bcell hbw5; (try simp only [World.size_drew, World.cell?_drew, World.frozen?_drew] at hcw5 hfw5); have hzw5 := hbw5.size; (try simp at hzw5); have : w.heap.size < w5.heap.size := (by omega); (try dsimp only)
  have : w3.heap.size < w5.heap.size := by omega
  have : w4.heap.size < w5.heap.size := by omega
  go_wp2_with fail; refine (C5.out _).mono ?_; rintro ew6 w6 ⟨rfl, hbw6⟩; obtain ⟨hcw6, hfw6⟩ := bcell hbw6; (try simp only [World.size_drew, World.cell?_drew, World.frozen?_drew] at hcw6 hfw6); have hzw6 := hbw6.size; (try simp at hzw6); have : w.heap.size < w6.heap.size := (by omega); (try dsimp only)
  have : w3.heap.size < w6.heap.size := by omega
  have : w4.heap.size < w6.heap.size := by omega
  have : w5.heap.size < w6.heap.size := by omega
  go_wp2_with fail; refine (C6.out _).mono ?_; rintro ew7 w7 ⟨rfl, hbw7⟩; obtain ⟨hcw7, hfw7⟩ := bcell hbw7; (try simp only [World.size_drew, World.cell?_drew, World.frozen?_drew] at hcw7 hfw7); have hzw7 := hbw7.size; (try simp at hzw7); have : w.heap.size < w7.heap.size := (by omega); (try dsimp only)
  have : w3.heap.size < w7.heap.size := by omega
  have : w4.heap.size < w7.heap.size := by omega
  have : w5.heap.size < w7.heap.size := by omega
  have : w6.heap.size < w7.heap.size := by omega
  go_wp2_with fail; refine (C7.out _).mono ?_; rintro ew8 w8 ⟨rfl, hbw8⟩; obtain ⟨hcw8, hfw8⟩ := bcell hbw8; (try simp only [World.size_drew, World.cell?_drew, World.frozen?_drew] at hcw8 hfw8); have hzw8 := hbw8.size; (try simp at hzw8); have : w.heap.size < w8.heap.size := (by omega); (try dsimp only)
  have : w3.heap.size < w8.heap.size := by omega
  have : w4.heap.size < w8.heap.size := by omega
  have : w5.heap.size < w8.heap.size := by omega
  have : w6.heap.size < w8.heap.size := by omega
  have : w7.heap.size < w8.heap.size := by omega
  have q2 : eqM (negZ 1000000) 1000000 (negZ 1000000) 1000000 = true := by decide
  have hB8 : Below w.heap.size w w8 := by repeat (first | (with_reducible exact Below.refl _ _) | (with_reducible refine Below.drew ?_) | (refine Below.setCell ?_ (by first | exact Nat.le_refl _ | (simp; done) | (simp; omega) | omega) _) | (refine Below.alloc ?_ (by first | exact Nat.le_refl _ | (simp; done) | (simp; omega) | omega) _) | (refine Below.trans ?_ (Below.mono (by assumption) (by first | exact Nat.le_refl _ | (simp; done) | (simp; omega) | omega))))
  have hs8 := hB8.size
  clear hbw1 hfw1 hzw1 hbw2 hfw2 hzw2 hbw3 hfw3 hzw3 hbw4 hfw4 hzw4 hbw5 hfw5 hzw5 hbw6 hfw6 hzw6 hbw7 hfw7 hzw7 hbw8 hfw8 hzw8
  go_wp2_with fail
  go_at_call 17
  with_reducible refine (C8.out _).mono ?_
  rintro e wa ⟨rfl, rfl⟩
  go_wp2
  go_ret
  refine ⟨rfl, ?_⟩
  repeat (first | (with_reducible exact Below.refl _ _) | (with_reducible refine Below.drew ?_) | (refine Below.setCell ?_ (by first | exact Nat.le_refl _ | (simp; done) | (simp; omega) | omega) _) | (refine Below.alloc ?_ (by first | exact Nat.le_refl _ | (simp; done) | (simp; omega) | omega) _) | (refine Below.trans ?_ (Below.mono (by assumption) (by first | exact Nat.le_refl _ | (simp; done) | (simp; omega) | omega))))

theorem units_w (n : Bool) (m : Nat) (w : World) :
    Calls Try.prog 10 #[MV n m] w fun e w' => e = .returned (.bool true) ∧ Below w.heap.size w w' := by
  cases h : goodB n m
  · exact units_bad n m h w
  · obtain ⟨x, hx, rfl, rfl⟩ := good_z h
    by_cases h0 : x = 0
    · subst h0; exact units_0 w
    · exact units_ok x hx h0 w
end Go.Proofs.Ytdoahjiahdeflaa
