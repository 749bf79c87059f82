/- The walk of the statement DecUnits: times 1, divided by 1, to the power of 1 and 0, divided by itself. -/
import Derived.Test.YtanfgolelhmdhaaDecX
namespace Go.Proofs.Ytanfgolelhmdhaa
set_option linter.unusedSimpArgs false
set_option linter.unusedVariables false
set_option linter.unnecessarySimpa false
open Go.RowKit

theorem one_top : (1000000 : Int).natAbs < topN := by decide
theorem zero_top : (0 : Int).natAbs < topN := by decide
theorem tdiv_one (x : Int) : (x * 1000000).tdiv 1000000 = x := Int.mul_tdiv_cancel _ (by decide)
theorem tdiv_self {x : Int} (h : x ≠ 0) : (x * 1000000).tdiv x = 1000000 := Int.mul_tdiv_cancel_left _ h
theorem one_w : ∀ w, Calls Try.prog 32 #[.int .i64 1] w fun e w' => e = .returned (ZV 1000000) ∧ Below w.heap.size w w' := int_z 1 (by unfold i64B; omega)
theorem mul_one_w {x : Int} (hx : x.natAbs < topN) : ∀ w, Calls Try.prog 24 #[ZV x, ZV 1000000] w fun e w' => e = .returned (.tuple #[ZV x, .nilIface]) ∧ Below w.heap.size w w' := by
  intro w
  have k := mul_z x 1000000 hx one_top w
  rw [tdiv_one, fitR_0 hx] at k
  exact k
theorem div_one_w {x : Int} (hx : x.natAbs < topN) : ∀ w, Calls Try.prog 25 #[ZV x, ZV 1000000] w fun e w' => e = .returned (.tuple #[ZV x, .nilIface]) ∧ Below w.heap.size w w' := by
  intro w
  have k := div_z x 1000000 hx one_top (by decide) w
  rw [tdiv_one, fitR_0 hx] at k
  exact k
theorem powR_one {x : Int} (hx : x.natAbs < topN) : powR x 1000000 = (x, 0) := by
  have a : (1000000 : Int) = truncZ 1000000 := by decide
  have b : negZ 1000000 = false := by decide
  have c : (1000000 : Int).natAbs / 1000000 = 1 := by decide
  unfold powR
  rw [if_pos a, c, b]
  rw [if_neg (by simp), if_pos (by decide), if_neg (by simp), powN_succ (by rfl), powN_zero]
  show fitR ((1000000 * x).tdiv 1000000) = _
  rw [Int.mul_comm, tdiv_one, fitR_0 hx]
theorem powR_zero (x : Int) : powR x 0 = (1000000, 0) := by
  have a : (0 : Int) = truncZ 0 := by decide
  have b : negZ 0 = false := by decide
  have c : (0 : Int).natAbs / 1000000 = 0 := by decide
  unfold powR
  rw [if_pos a, c, b]
  rw [if_neg (by simp), if_pos (by decide), if_neg (by simp), powN_zero]
theorem pow_one_w {x : Int} (hx : x.natAbs < topN) : ∀ w, Calls Try.prog 30 #[ZV x, ZV 1000000] w fun e w' => e = .returned (.tuple #[ZV x, .nilIface]) ∧ Below w.heap.size w w' := by
  intro w
  have k := pow_z x 1000000 hx one_top w
  rw [powR_one hx] at k
  exact k
theorem pow_zero_w {x : Int} (hx : x.natAbs < topN) : ∀ w, Calls Try.prog 30 #[ZV x, .agg #[.bool false, .int .u64 0, .int .u64 0]] w fun e w' => e = .returned (.tuple #[ZV 1000000, .nilIface]) ∧ Below w.heap.size w w' := by
  intro w
  have k := pow_z x 0 hx zero_top w
  rw [powR_zero x] at k
  exact k
theorem div_self_w {x : Int} (hx : x.natAbs < topN) (h0 : x ≠ 0) : ∀ w, Calls Try.prog 25 #[ZV x, ZV x] w fun e w' => e = .returned (.tuple #[ZV 1000000, .nilIface]) ∧ Below w.heap.size w w' := by
  intro w
  have k := div_z x x hx hx h0 w
  rw [tdiv_self h0, fitR_0 one_top] at k
  exact k

theorem good_u {n : Bool} {m : Nat} {g : Bool} (h : goodB n m = g) : ∀ w, Calls Try.prog 15 #[MV n m] w fun e w' => e = .returned (.bool g) ∧ Below w.heap.size w w' := by
  intro w; rw [← h]; exact good_m n m w
theorem units_bad (n : Bool) (m : Nat) (h : goodB n m = false) (w : World) :
    Calls Try.prog 10 #[MV n m] w fun e w' => e = .returned (.bool true) ∧ Below w.heap.size w w' := by
  have C0 := Lib.hid awake_t
  have C1 := Lib.hid (good_u h)
  clear h
  go_enter Try.func10, Try.ntmps10
  go_wp2_with fail; refine (C0.out _).mono ?_; rintro ew1 w1 ⟨rfl, hbw1⟩; obtain ⟨hcw1, hfw1⟩ := bcell hbw1; (try simp only [World.size_drew, World.cell?_drew, World.frozen?_drew] at hcw1 hfw1); have hzw1 := hbw1.size; (try simp at hzw1); have : w.heap.size < w1.heap.size := (by omega); (try dsimp only)
  go_wp2_with fail; refine (C1.out _).mono ?_; rintro ew2 w2 ⟨rfl, hbw2⟩; obtain ⟨hcw2, hfw2⟩ := bcell hbw2; (try simp only [World.size_drew, World.cell?_drew, World.frozen?_drew] at hcw2 hfw2); have hzw2 := hbw2.size; (try simp at hzw2); have : w.heap.size < w2.heap.size := (by omega); (try dsimp only)
  go_wp2
  go_ret
  refine ⟨rfl, ?_⟩
  repeat (first | (with_reducible exact Below.refl _ _) | (with_reducible refine Below.drew ?_) | (refine Below.setCell ?_ (by first | exact Nat.le_refl _ | (simp; done) | (simp; omega) | omega) _) | (refine Below.alloc ?_ (by first | exact Nat.le_refl _ | (simp; done) | (simp; omega) | omega) _) | (refine Below.trans ?_ (Below.mono (by assumption) (by first | exact Nat.le_refl _ | (simp; done) | (simp; omega) | omega))))

theorem truncs_bad (n : Bool) (m : Nat) (h : goodB n m = false) (w : World) :
    Calls Try.prog 9 #[MV n m] w fun e w' => e = .returned (.bool true) ∧ Below w.heap.size w w' := by
  have C0 := Lib.hid awake_t
  have C1 := Lib.hid (good_u h)
  clear h
  go_enter Try.func9, Try.ntmps9
  go_wp2_with fail; refine (C0.out _).mono ?_; rintro ew1 w1 ⟨rfl, hbw1⟩; obtain ⟨hcw1, hfw1⟩ := bcell hbw1; (try simp only [World.size_drew, World.cell?_drew, World.frozen?_drew] at hcw1 hfw1); have hzw1 := hbw1.size; (try simp at hzw1); have : w.heap.size < w1.heap.size := (by omega); (try dsimp only)
  go_wp2_with fail; refine (C1.out _).mono ?_; rintro ew2 w2 ⟨rfl, hbw2⟩; obtain ⟨hcw2, hfw2⟩ := bcell hbw2; (try simp only [World.size_drew, World.cell?_drew, World.frozen?_drew] at hcw2 hfw2); have hzw2 := hbw2.size; (try simp at hzw2); have : w.heap.size < w2.heap.size := (by omega); (try dsimp only)
  go_wp2
  go_ret
  refine ⟨rfl, ?_⟩
  repeat (first | (with_reducible exact Below.refl _ _) | (with_reducible refine Below.drew ?_) | (refine Below.setCell ?_ (by first | exact Nat.le_refl _ | (simp; done) | (simp; omega) | omega) _) | (refine Below.alloc ?_ (by first | exact Nat.le_refl _ | (simp; done) | (simp; omega) | omega) _) | (refine Below.trans ?_ (Below.mono (by assumption) (by first | exact Nat.le_refl _ | (simp; done) | (simp; omega) | omega))))

set_option maxHeartbeats 4000000 in
theorem units_ok (x : Int) (hx : x.natAbs < topN) (h0 : x ≠ 0) (w : World) :
    Calls Try.prog 10 #[ZV x] w fun e w' => e = .returned (.bool true) ∧ Below w.heap.size w w' := by
  have C0 := Lib.hid awake_t
  have C1 := Lib.hid (good_z' hx)
  have C2 := Lib.hid one_w
  have C3 := Lib.hid (mul_one_w hx)
  have C4 := Lib.hid (div_one_w hx)
  have C5 := Lib.hid (pow_one_w hx)
  have C6 := Lib.hid (pow_zero_w hx)
  have C7 := Lib.hid (div_self_w hx h0)
  clear hx
  go_enter Try.func10, Try.ntmps10
  go_wp2_with fail; refine (C0.out _).mono ?_; rintro ew1 w1 ⟨rfl, hbw1⟩; obtain ⟨hcw1, hfw1⟩ := bcell hbw1; (try simp only [World.size_drew, World.cell?_drew, World.frozen?_drew] at hcw1 hfw1); have hzw1 := hbw1.size; (try simp at hzw1); have : w.heap.size < w1.heap.size := (by omega); (try dsimp only)
  go_wp2_with fail; refine (C1.out _).mono ?_; rintro ew2 w2 ⟨rfl, hbw2⟩; obtain ⟨hcw2, hfw2⟩ := bcell hbw2; (try simp only [World.size_drew, World.cell?_drew, World.frozen?_drew] at hcw2 hfw2); have hzw2 := hbw2.size; (try simp at hzw2); have : w.heap.size < w2.heap.size := (by omega); (try dsimp only)
  go_wp2_with fail; refine (C2.out _).mono ?_; rintro ew3 w3 ⟨rfl, hbw3⟩; obtain ⟨hcw3, hfw3⟩ := bcell hbw3; (try simp only [World.size_drew, World.cell?_drew, World.frozen?_drew] at hcw3 hfw3); have hzw3 := hbw3.size; (try simp at hzw3); have : w.heap.size < w3.heap.size := (by omega); (try dsimp only)
  go_wp2_with fail; refine (C3.out _).mono ?_; rintro ew4 w4 ⟨rfl, hbw4⟩; obtain ⟨hcw4, hfw4⟩ := bcell hbw4; (try simp only [World.size_drew, World.cell?_drew, World.frozen?_drew] at hcw4 hfw4); have hzw4 := hbw4.size; (try simp at hzw4); have : w.heap.size < w4.heap.size := (by omega); (try dsimp only)
  have : w3.heap.size < w4.heap.size := by omega
  go_wp2_with fail; refine (C4.out _).mono ?_; rintro ew5 w5 ⟨rfl, hbw5⟩; obtain ⟨hcw5, hfw5⟩ := bcell hbw5; (try simp only [World.size_drew, World.cell?_drew, World.frozen?_drew] at hcw5 hfw5); have hzw5 := hbw5.size; (try simp at hzw5); have : w.heap.size < w5.heap.size := (by omega); (try dsimp only)
  have : w3.heap.size < w5.heap.size := by omega
  have : w4.heap.size < w5.heap.size := by omega
  go_wp2_with fail; refine (C5.out _).mono ?_; rintro ew6 w6 ⟨rfl, hbw6⟩; obtain ⟨hcw6, hfw6⟩ := bcell hbw6; (try simp only [World.size_drew, World.cell?_drew, World.frozen?_drew] at hcw6 hfw6); have hzw6 := hbw6.size; (try simp at hzw6); have : w.heap.size < w6.heap.size := (by omega); (try dsimp only)
  have : w3.heap.size < w6.heap.size := by omega
  have : w4.heap.size < w6.heap.size := by omega
  have : w5.heap.size < w6.heap.size := by omega
  go_wp2_with fail; refine (C6.out _).mono ?_; rintro ew7 w7 ⟨rfl, hbw7⟩; obtain ⟨hcw7, hfw7⟩ := bcell hbw7; (try simp only [World.size_drew, World.cell?_drew, World.frozen?_drew] at hcw7 hfw7); have hzw7 := hbw7.size; (try simp at hzw7); have : w.heap.size < w7.heap.size := (by omega); (try dsimp only)
  have : w3.heap.size < w7.heap.size := by omega
  have : w4.heap.size < w7.heap.size := by omega
  have : w5.heap.size < w7.heap.size := by omega
  have : w6.heap.size < w7.heap.size := by omega
  go_wp2_with fail; refine (C7.out _).mono ?_; rintro ew8 w8 ⟨rfl, hbw8⟩; obtain ⟨hcw8, hfw8⟩ := bcell hbw8; (try simp only [World.size_drew, World.cell?_drew, World.frozen?_drew] at hcw8 hfw8); have hzw8 := hbw8.size; (try simp at hzw8); have : w.heap.size < w8.heap.size := (by omega); (try dsimp only)
  have : w3.heap.size < w8.heap.size := by omega
  have : w4.heap.size < w8.heap.size := by omega
  have : w5.heap.size < w8.heap.size := by omega
  have : w6.heap.size < w8.heap.size := by omega
  have : w7.heap.size < w8.heap.size := by omega
  have q1 : eqM (negZ x) x.natAbs (negZ x) x.natAbs = true := by rw [eqM_z]; simp
  have q2 : eqM (negZ 1000000) 1000000 (negZ 1000000) 1000000 = true := by decide
  have q3 : eqM (negZ x) x.natAbs false 0 = false := by rw [eq0_z]; simp [h0]
  have hB8 : Below w.heap.size w w8 := by repeat (first | (with_reducible exact Below.refl _ _) | (with_reducible refine Below.drew ?_) | (refine Below.setCell ?_ (by first | exact Nat.le_refl _ | (simp; done) | (simp; omega) | omega) _) | (refine Below.alloc ?_ (by first | exact Nat.le_refl _ | (simp; done) | (simp; omega) | omega) _) | (refine Below.trans ?_ (Below.mono (by assumption) (by first | exact Nat.le_refl _ | (simp; done) | (simp; omega) | omega))))
  have hs8 := hB8.size
  have n0 : ((hiN x.natAbs : Nat) : Int) = 0 → ((loN x.natAbs : Nat) : Int) = 0 → False := by intro a b; have := hilo x.natAbs; omega
  clear q3
  go_wp2_with fail
  all_goals first
    | (go_ret; refine ⟨rfl, ?_⟩; (repeat (first | (with_reducible exact Below.refl _ _) | (with_reducible refine Below.drew ?_) | (refine Below.setCell ?_ (by first | exact Nat.le_refl _ | (simp; done) | (simp; omega) | omega) _) | (refine Below.alloc ?_ (by first | exact Nat.le_refl _ | (simp; done) | (simp; omega) | omega) _) | (refine Below.trans ?_ (Below.mono (by assumption) (by first | exact Nat.le_refl _ | (simp; done) | (simp; omega) | omega))))); done)
    | exact (n0 (by assumption) (by assumption)).elim
    | (exfalso; simp_all; done)
end Go.Proofs.Ytanfgolelhmdhaa
