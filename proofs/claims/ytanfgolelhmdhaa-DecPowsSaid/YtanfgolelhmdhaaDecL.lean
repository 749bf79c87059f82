/- The contracts of dec.Mod, dec.Trunc on right numbers, and on others. -/
import Derived.Test.YtanfgolelhmdhaaDecJ
namespace Go.Proofs.Ytanfgolelhmdhaa
set_option linter.unusedSimpArgs false
set_option linter.unusedVariables false
set_option linter.unnecessarySimpa false
open Go.RowKit

/-- Behind the long division: its rest lies in a block of the call's own. -/
def CutM (w : World) (x : Int) (r : Nat) (t8 : Value) (w' : World) : Prop := ∃ b : Nat, t8 = .pointer (some ⟨b, 0, none⟩) ∧
  w'.cell? ⟨b, 0, none⟩ = some (.bool false) ∧ w'.cell? ⟨b, 1, none⟩ = some (.int .u64 (hiN r : Int)) ∧ w'.cell? ⟨b, 2, none⟩ = some (.int .u64 (loN r : Int)) ∧
  w'.cell? ⟨w.heap.size, 0, none⟩ = some (.bool (negZ x)) ∧
  w'.cell? ⟨w.heap.size + 1 + 1, 0, none⟩ = some (.bool false) ∧ w'.cell? ⟨w.heap.size + 1 + 1, 1, none⟩ = some (.int .u64 0) ∧ w'.cell? ⟨w.heap.size + 1 + 1, 2, none⟩ = some (.int .u64 0) ∧
  w'.frozen? ⟨w.heap.size + 1 + 1, 0, none⟩ = false ∧ w'.frozen? ⟨w.heap.size + 1 + 1, 1, none⟩ = false ∧ w'.frozen? ⟨w.heap.size + 1 + 1, 2, none⟩ = false ∧
  Below w.heap.size w w' ∧ w.heap.size + 1 + 1 + 1 ≤ w'.heap.size

set_option maxHeartbeats 4000000 in
theorem mod_z (x y : Int) (hx : x.natAbs < topN) (hy : y.natAbs < topN) (h0 : y ≠ 0) (w : World) :
    Calls Try.prog 26 #[ZV x, ZV y] w fun e w' => e = .returned (RV (x.tmod y, 0)) ∧ Below w.heap.size w w' := by
  have C1 := Lib.hid (divisible_ok (negZ x) (negZ y) x.natAbs y.natAbs (by rw [goodB_z]; simpa using hx) (by rw [goodB_z]; simpa using hy) (by omega))
  have C3 : Hid (∀ w, Calls Try.prog 40 #[ZV x] w fun e w' => e = .returned (QV x.natAbs) ∧ Below w.heap.size w w') := fun w => widen_m (negZ x) x.natAbs (by rw [topN_eq] at hx; omega) w
  have C4 : Hid (∀ w, Calls Try.prog 53 #[QV x.natAbs, ZV y] w fun e w' => e = .returned (.tuple #[QV (x.natAbs / y.natAbs), MV false (x.natAbs % y.natAbs)]) ∧ Below w.heap.size w w') :=
    fun w => divide_m x.natAbs y.natAbs (negZ y) (by omega) (by rw [topN_eq] at hy; omega) (by rw [topN_eq] at hx; omega) w
  have C5 : Hid (∀ w, Calls Try.prog 56 #[MV false (x.natAbs % y.natAbs), .bool (negZ x)] w fun e w' => e = .returned (ZV (x.tmod y)) ∧ Below w.heap.size w w') := by
    intro w
    refine (signed_m (x.natAbs % y.natAbs) (negZ x) w).mono ?_
    rintro e w' ⟨rfl, hb⟩
    exact ⟨ret_v (sign_z' (Int.natAbs_tmod x y).symm (fun h => (tmod_sign (by rw [← Int.natAbs_tmod] at h; omega)).symm)), hb⟩
  clear hx hy h0
  go_enter Try.func26, Try.ntmps26
  go_wp2_with fail; refine (C1.out _).mono ?_; rintro ew1 w1 ⟨rfl, hbw1⟩; obtain ⟨hcw1, hfw1⟩ := bcell hbw1; (try simp only [World.size_drew, World.cell?_drew, World.frozen?_drew] at hcw1 hfw1); have hzw1 := hbw1.size; (try simp at hzw1); have : w.heap.size < w1.heap.size := (by omega); have : w.heap.size + 1 < w1.heap.size := (by omega); have : w.heap.size + 1 + 1 < w1.heap.size := (by omega); (try dsimp only)
  go_upto_region 4 with fail
  have k0 : w1.cell? ⟨w.heap.size, 0, none⟩ = some (.bool (negZ x)) := by go_simp
  have k1 : w1.cell? ⟨w.heap.size, 1, none⟩ = some (.int .u64 (hiN x.natAbs : Int)) := by go_simp
  have k2 : w1.cell? ⟨w.heap.size, 2, none⟩ = some (.int .u64 (loN x.natAbs : Int)) := by go_simp
  have k3 : w1.cell? ⟨w.heap.size + 1, 0, none⟩ = some (.bool (negZ y)) := by go_simp
  have k4 : w1.cell? ⟨w.heap.size + 1, 1, none⟩ = some (.int .u64 (hiN y.natAbs : Int)) := by go_simp
  have k5 : w1.cell? ⟨w.heap.size + 1, 2, none⟩ = some (.int .u64 (loN y.natAbs : Int)) := by go_simp
  have r0 : w1.cell? ⟨w.heap.size + 1 + 1, 0, none⟩ = some (.bool false) := by go_simp
  have r1 : w1.cell? ⟨w.heap.size + 1 + 1, 1, none⟩ = some (.int .u64 0) := by go_simp
  have r2 : w1.cell? ⟨w.heap.size + 1 + 1, 2, none⟩ = some (.int .u64 0) := by go_simp
  have z0 : w1.frozen? ⟨w.heap.size + 1 + 1, 0, none⟩ = false := by go_simp
  have z1 : w1.frozen? ⟨w.heap.size + 1 + 1, 1, none⟩ = false := by go_simp
  have z2 : w1.frozen? ⟨w.heap.size + 1 + 1, 2, none⟩ = false := by go_simp
  have hB1 : Below w.heap.size w w1 := by repeat (first | (with_reducible exact Below.refl _ _) | (with_reducible refine Below.drew ?_) | (refine Below.setCell ?_ (by first | exact Nat.le_refl _ | (simp; done) | (simp; omega) | omega) _) | (refine Below.alloc ?_ (by first | exact Nat.le_refl _ | (simp; done) | (simp; omega) | omega) _) | (refine Below.trans ?_ (Below.mono (by assumption) (by first | exact Nat.le_refl _ | (simp; done) | (simp; omega) | omega))))
  have : w.heap.size < w1.heap.size + 1 := (by omega)
  have : w.heap.size < w1.heap.size + 1 + 1 := (by omega)
  have : w.heap.size + 1 < w1.heap.size + 1 := (by omega)
  have : w.heap.size + 1 < w1.heap.size + 1 + 1 := (by omega)
  have : w.heap.size + 1 + 1 < w1.heap.size + 1 := (by omega)
  have : w.heap.size + 1 + 1 < w1.heap.size + 1 + 1 := (by omega)
  clear hbw1 hcw1 hfw1
  generalize x.natAbs / y.natAbs = q at *
  generalize x.natAbs % y.natAbs = r at *
  go_cut [7, 8] from 9 (fun _ t8 w' => CutM w x r t8 w')
  case first =>
    go_region_held3 (fun w' => w'.cell? ⟨w.heap.size, 0, none⟩ = some (.bool (negZ x)) ∧ w'.cell? ⟨w.heap.size, 1, none⟩ = some (.int .u64 (hiN x.natAbs : Int)) ∧ w'.cell? ⟨w.heap.size, 2, none⟩ = some (.int .u64 (loN x.natAbs : Int)) ∧
      w'.cell? ⟨w.heap.size + 1, 0, none⟩ = some (.bool (negZ y)) ∧ w'.cell? ⟨w.heap.size + 1, 1, none⟩ = some (.int .u64 (hiN y.natAbs : Int)) ∧ w'.cell? ⟨w.heap.size + 1, 2, none⟩ = some (.int .u64 (loN y.natAbs : Int))) ((refine ⟨?_, ?_, ?_, ?_, ?_, ?_⟩ <;> go_simp))
      (first
        | (go_at_call 40; refine (C3.out _).mono ?_; rintro ew3 w3 ⟨rfl, hbw3⟩; obtain ⟨hcw3, hfw3⟩ := bcell hbw3; (try simp only [World.size_drew, World.cell?_drew, World.frozen?_drew] at hcw3 hfw3); have hzw3 := hbw3.size; (try simp at hzw3); have : w.heap.size < w3.heap.size := (by omega); have : w.heap.size + 1 < w3.heap.size := (by omega); have : w.heap.size + 1 + 1 < w3.heap.size := (by omega); (try dsimp only); have : w.heap.size < w3.heap.size + 1 := (by omega); have : w.heap.size < w3.heap.size + 1 + 1 := (by omega); have : w.heap.size + 1 < w3.heap.size + 1 := (by omega); have : w.heap.size + 1 < w3.heap.size + 1 + 1 := (by omega); have : w.heap.size + 1 + 1 < w3.heap.size + 1 := (by omega); have : w.heap.size + 1 + 1 < w3.heap.size + 1 + 1 := (by omega); (try have : w1.heap.size < w3.heap.size := (by omega)); (try have : w1.heap.size + 1 < w3.heap.size := (by omega)))
        | (go_at_call 53; refine (C4.out _).mono ?_; rintro ew4 w4 ⟨rfl, hbw4⟩; obtain ⟨hcw4, hfw4⟩ := bcell hbw4; (try simp only [World.size_drew, World.cell?_drew, World.frozen?_drew] at hcw4 hfw4); have hzw4 := hbw4.size; (try simp at hzw4); have : w.heap.size < w4.heap.size := (by omega); have : w.heap.size + 1 < w4.heap.size := (by omega); have : w.heap.size + 1 + 1 < w4.heap.size := (by omega); (try dsimp only); (try have : w1.heap.size < w4.heap.size := (by omega)); (try have : w1.heap.size + 1 < w4.heap.size := (by omega)); (try have : w3.heap.size < w4.heap.size := (by omega)); (try have : w3.heap.size + 1 < w4.heap.size := (by omega))))
    all_goals
      go_wp2_with fail
      go_meet
      case rel =>
        refine ⟨_, rfl, ?_, ?_, ?_, ?_, ?_, ?_, ?_, ?_, ?_, ?_, ?_, ?_⟩
        · (repeat (first | ((with_reducible refine cell_other ?_ ?_); (focus (first | (simp; done) | (simp; omega)))) | ((with_reducible refine cell_lt ?_ ?_); (focus (first | (simp; done) | (simp; omega)))) | (with_reducible refine cell_same ?_) | ((with_reducible refine ex_other ?_ ?_); (focus (first | (simp; done) | (simp; omega)))) | ((with_reducible refine ex_lt ?_ ?_); (focus (first | (simp; done) | (simp; omega)))))); (first | (go_simp; done) | (go_simp; refine ⟨_, rfl⟩))
        · (repeat (first | ((with_reducible refine cell_other ?_ ?_); (focus (first | (simp; done) | (simp; omega)))) | ((with_reducible refine cell_lt ?_ ?_); (focus (first | (simp; done) | (simp; omega)))) | (with_reducible refine cell_same ?_) | ((with_reducible refine ex_other ?_ ?_); (focus (first | (simp; done) | (simp; omega)))) | ((with_reducible refine ex_lt ?_ ?_); (focus (first | (simp; done) | (simp; omega)))))); (first | (go_simp; done) | (go_simp; refine ⟨_, rfl⟩))
        · (repeat (first | ((with_reducible refine cell_other ?_ ?_); (focus (first | (simp; done) | (simp; omega)))) | ((with_reducible refine cell_lt ?_ ?_); (focus (first | (simp; done) | (simp; omega)))) | (with_reducible refine cell_same ?_) | ((with_reducible refine ex_other ?_ ?_); (focus (first | (simp; done) | (simp; omega)))) | ((with_reducible refine ex_lt ?_ ?_); (focus (first | (simp; done) | (simp; omega)))))); (first | (go_simp; done) | (go_simp; refine ⟨_, rfl⟩))
        · (repeat (first | ((with_reducible refine cell_other ?_ ?_); (focus (first | (simp; done) | (simp; omega)))) | ((with_reducible refine cell_lt ?_ ?_); (focus (first | (simp; done) | (simp; omega)))) | (with_reducible refine cell_same ?_) | ((with_reducible refine ex_other ?_ ?_); (focus (first | (simp; done) | (simp; omega)))) | ((with_reducible refine ex_lt ?_ ?_); (focus (first | (simp; done) | (simp; omega)))))); (first | (go_simp; done) | (go_simp; refine ⟨_, rfl⟩))
        · (repeat (first | ((with_reducible refine cell_other ?_ ?_); (focus (first | (simp; done) | (simp; omega)))) | ((with_reducible refine cell_lt ?_ ?_); (focus (first | (simp; done) | (simp; omega)))) | (with_reducible refine cell_same ?_) | ((with_reducible refine ex_other ?_ ?_); (focus (first | (simp; done) | (simp; omega)))) | ((with_reducible refine ex_lt ?_ ?_); (focus (first | (simp; done) | (simp; omega)))))); (first | (go_simp; done) | (go_simp; refine ⟨_, rfl⟩))
        · (repeat (first | ((with_reducible refine cell_other ?_ ?_); (focus (first | (simp; done) | (simp; omega)))) | ((with_reducible refine cell_lt ?_ ?_); (focus (first | (simp; done) | (simp; omega)))) | (with_reducible refine cell_same ?_) | ((with_reducible refine ex_other ?_ ?_); (focus (first | (simp; done) | (simp; omega)))) | ((with_reducible refine ex_lt ?_ ?_); (focus (first | (simp; done) | (simp; omega)))))); (first | (go_simp; done) | (go_simp; refine ⟨_, rfl⟩))
        · (repeat (first | ((with_reducible refine cell_other ?_ ?_); (focus (first | (simp; done) | (simp; omega)))) | ((with_reducible refine cell_lt ?_ ?_); (focus (first | (simp; done) | (simp; omega)))) | (with_reducible refine cell_same ?_) | ((with_reducible refine ex_other ?_ ?_); (focus (first | (simp; done) | (simp; omega)))) | ((with_reducible refine ex_lt ?_ ?_); (focus (first | (simp; done) | (simp; omega)))))); (first | (go_simp; done) | (go_simp; refine ⟨_, rfl⟩))
        · go_simp
        · go_simp
        · go_simp
        · repeat (first | (with_reducible exact Below.refl _ _) | (with_reducible refine Below.drew ?_) | (refine Below.setCell ?_ (by first | exact Nat.le_refl _ | (simp; done) | (simp; omega) | omega) _) | (refine Below.alloc ?_ (by first | exact Nat.le_refl _ | (simp; done) | (simp; omega) | omega) _) | (refine Below.trans ?_ (Below.mono (by assumption) (by first | exact Nat.le_refl _ | (simp; done) | (simp; omega) | omega))))
        · (first | omega | (simp; omega))
  case rest =>
    clear r0 r1 r2 z0 z1 z2
    obtain ⟨b, rfl, q0, q1, q2, x0, z0, z1, z2, f0, f1, f2, hB, hz⟩ := hcut
    obtain ⟨_, _, _⟩ := zs3 hz
    clear k0 k1 k2 k3 k4 k5 hB1 hzw1
    go_wp2_with fail; refine (C5.out _).mono ?_; rintro ew5 w5 ⟨rfl, hbw5⟩; obtain ⟨hcw5, hfw5⟩ := bcell hbw5; (try simp only [World.size_drew, World.cell?_drew, World.frozen?_drew] at hcw5 hfw5); have hzw5 := hbw5.size; (try simp at hzw5); have : w.heap.size < w5.heap.size := (by omega); have : w.heap.size + 1 < w5.heap.size := (by omega); have : w.heap.size + 1 + 1 < w5.heap.size := (by omega); (try dsimp only)
    go_wp2
    refine bodyPost_ret (v := .tuple #[ZV (x.tmod y), .nilIface]) (by simp [results, Try.results26, go_sem, *]) rfl ⟨rfl, ?_⟩
    repeat (first | (with_reducible exact Below.refl _ _) | (with_reducible refine Below.drew ?_) | (refine Below.setCell ?_ (by first | exact Nat.le_refl _ | (simp; done) | (simp; omega) | omega) _) | (refine Below.alloc ?_ (by first | exact Nat.le_refl _ | (simp; done) | (simp; omega) | omega) _) | (refine Below.trans ?_ (Below.mono (by assumption) (by first | exact Nat.le_refl _ | (simp; done) | (simp; omega) | omega))))

theorem trunc_bad (n : Bool) (m : Nat) (h : goodB n m = false) (w : World) :
    Calls Try.prog 34 #[MV n m] w fun e w' => e = .returned (ZV 0) ∧ Below w.heap.size w w' := by
  have c1 := fun w => good_m n m w
  rw [h] at c1
  have C1 := Lib.hid c1
  clear c1 h
  go_enter Try.func34, Try.ntmps34
  go_wp2_with fail; refine (C1.out _).mono ?_; rintro ew1 w1 ⟨rfl, hbw1⟩; obtain ⟨hcw1, hfw1⟩ := bcell hbw1; (try simp only [World.size_drew, World.cell?_drew, World.frozen?_drew] at hcw1 hfw1); have hzw1 := hbw1.size; (try simp at hzw1); have : w.heap.size < w1.heap.size := (by omega); have : w.heap.size + 1 < w1.heap.size := (by omega); (try dsimp only)
  go_wp2
  refine bodyPost_ret (v := .agg #[.bool false, .int .u64 0, .int .u64 0]) (by simp [results, Try.results34, go_sem, *]) rfl ⟨rfl, ?_⟩
  repeat (first | (with_reducible exact Below.refl _ _) | (with_reducible refine Below.drew ?_) | (refine Below.setCell ?_ (by first | exact Nat.le_refl _ | (simp; done) | (simp; omega) | omega) _) | (refine Below.alloc ?_ (by first | exact Nat.le_refl _ | (simp; done) | (simp; omega) | omega) _) | (refine Below.trans ?_ (Below.mono (by assumption) (by first | exact Nat.le_refl _ | (simp; done) | (simp; omega) | omega))))

def truncZ (x : Int) : Int := x.tdiv 1000000 * 1000000
theorem trunc_abs (x : Int) : x.natAbs - x.natAbs % 1000000 = (truncZ x).natAbs := by
  unfold truncZ; rw [Int.natAbs_mul, Int.natAbs_tdiv]; show _ = x.natAbs / 1000000 * 1000000; omega
theorem trunc_sgn {x : Int} (h : x.natAbs - x.natAbs % 1000000 ≠ 0) : negZ x = negZ (truncZ x) := by
  rw [trunc_abs] at h
  have h1 : x.tdiv 1000000 ≠ 0 := by intro e; unfold truncZ at h; rw [e] at h; simp at h
  unfold truncZ
  rw [negZ_mul (by intro e; unfold truncZ at h; rw [e] at h; simp at h), tdiv_sign h1]
  have : negZ 1000000 = false := rfl
  rw [this]; simp

set_option maxHeartbeats 2000000 in
theorem trunc_z (x : Int) (hx : x.natAbs < topN) (w : World) :
    Calls Try.prog 34 #[ZV x] w fun e w' => e = .returned (ZV (truncZ x)) ∧ Below w.heap.size w w' := by
  have C1 := Lib.hid (good_z' hx)
  have C3 : Hid (∀ w, Calls Try.prog 40 #[ZV x] w fun e w' => e = .returned (QV x.natAbs) ∧ Below w.heap.size w w') := fun w => widen_m (negZ x) x.natAbs (by rw [topN_eq] at hx; omega) w
  have C4 : Hid (∀ w, Calls Try.prog 53 #[QV x.natAbs, .agg #[.bool false, .int .u64 0, .int .u64 1000000]] w fun e w' => e = .returned (.tuple #[QV (x.natAbs / 1000000), MV false (x.natAbs % 1000000)]) ∧ Below w.heap.size w w') := by
    intro w
    rw [← million_hi, ← million_lo]
    exact divide_m x.natAbs 1000000 false (by omega) (by omega) (by rw [topN_eq] at hx; omega) w
  have C5 := Lib.hid (minus_m (negZ x) false x.natAbs (x.natAbs % 1000000) (Nat.mod_le _ _) (by rw [topN_eq] at hx; omega))
  have C6 : Hid (∀ w, Calls Try.prog 56 #[MV false (x.natAbs - x.natAbs % 1000000), .bool (negZ x)] w fun e w' => e = .returned (ZV (truncZ x)) ∧ Below w.heap.size w w') := by
    intro w
    refine (signed_m (x.natAbs - x.natAbs % 1000000) (negZ x) w).mono ?_
    rintro e w' ⟨rfl, hb⟩
    exact ⟨ret_v (sign_z' (trunc_abs x) trunc_sgn), hb⟩
  clear hx
  generalize x.natAbs / 1000000 = q at *
  generalize hr : x.natAbs % 1000000 = r at *
  clear hr
  go_enter Try.func34, Try.ntmps34
  go_wp2_with fail; refine (C1.out _).mono ?_; rintro ew1 w1 ⟨rfl, hbw1⟩; obtain ⟨hcw1, hfw1⟩ := bcell hbw1; (try simp only [World.size_drew, World.cell?_drew, World.frozen?_drew] at hcw1 hfw1); have hzw1 := hbw1.size; (try simp at hzw1); have : w.heap.size < w1.heap.size := (by omega); have : w.heap.size + 1 < w1.heap.size := (by omega); (try dsimp only)
  go_wp2_with fail; refine (C3.out _).mono ?_; rintro ew2 w2 ⟨rfl, hbw2⟩; obtain ⟨hcw2, hfw2⟩ := bcell hbw2; (try simp only [World.size_drew, World.cell?_drew, World.frozen?_drew] at hcw2 hfw2); have hzw2 := hbw2.size; (try simp at hzw2); have : w.heap.size < w2.heap.size := (by omega); have : w.heap.size + 1 < w2.heap.size := (by omega); (try dsimp only)
  go_wp2_with fail; refine (C4.out _).mono ?_; rintro ew3 w3 ⟨rfl, hbw3⟩; obtain ⟨hcw3, hfw3⟩ := bcell hbw3; (try simp only [World.size_drew, World.cell?_drew, World.frozen?_drew] at hcw3 hfw3); have hzw3 := hbw3.size; (try simp at hzw3); have : w.heap.size < w3.heap.size := (by omega); have : w.heap.size + 1 < w3.heap.size := (by omega); (try dsimp only)
  go_wp2_with fail
  have : w.heap.size < w3.heap.size + 1 + 1 := by omega
  have : w.heap.size + 1 < w3.heap.size + 1 + 1 := by omega
  have : w.heap.size < w3.heap.size + 1 := by omega
  have : w.heap.size + 1 < w3.heap.size + 1 := by omega
  refine wp_region_held_drew (S := fun w' => w'.cell? ⟨w.heap.size, 0, none⟩ = some (.bool (negZ x)) ∧ w'.cell? ⟨w.heap.size, 1, none⟩ = some (.int .u64 (hiN x.natAbs : Int)) ∧ w'.cell? ⟨w.heap.size, 2, none⟩ = some (.int .u64 (loN x.natAbs : Int)) ∧
      w'.cell? ⟨w3.heap.size + 1, 0, none⟩ = some (.bool false) ∧ w'.cell? ⟨w3.heap.size + 1, 1, none⟩ = some (.int .u64 (hiN r : Int)) ∧ w'.cell? ⟨w3.heap.size + 1, 2, none⟩ = some (.int .u64 (loN r : Int)))
    (by kernel_rfl) (by refine ⟨?_, ?_, ?_, ?_, ?_, ?_⟩ <;> go_simp) (fun hHeld => ?_)
  refine wpAnyH_take (i := 0) (v := ?_) rfl (by kernel_rfl) (by kernel_rfl) (by kernel_rfl) (fun _ _ _ h => h) (Or.inl ⟨by rfl, ?_⟩) hHeld ?_
  rotate_left
  · (intro w0 hSw; (try dsimp only at hSw); (first | (go_simp; done) | (go_simp; with_reducible rfl)))
  (try simp only [List.getElem_toArray, List.getElem_cons_zero, List.getElem_cons_succ, Act.put, List.setIfInBounds_toArray, List.set_cons_zero, List.set_cons_succ])
  refine wpAnyH_take (i := 1) (v := ?_) rfl (by kernel_rfl) (by kernel_rfl) (by kernel_rfl) (fun _ _ _ h => h) (Or.inl ⟨by rfl, ?_⟩) hHeld ?_
  rotate_left
  · (intro w0 hSw; (try dsimp only at hSw); (first | (go_simp; done) | (go_simp; with_reducible rfl)))
  (try simp only [List.getElem_toArray, List.getElem_cons_zero, List.getElem_cons_succ, Act.put, List.setIfInBounds_toArray, List.set_cons_zero, List.set_cons_succ])
  refine wpAnyH_take (i := 3) (v := ?_) rfl (by kernel_rfl) (by kernel_rfl) (by kernel_rfl) (fun _ _ _ h => h) (Or.inl ⟨by rfl, ?_⟩) hHeld ?_
  rotate_left
  · (intro w0 hSw; (try dsimp only at hSw); (first | (go_simp; done) | (go_simp; with_reducible rfl)))
  (try simp only [List.getElem_toArray, List.getElem_cons_zero, List.getElem_cons_succ, Act.put, List.setIfInBounds_toArray, List.set_cons_zero, List.set_cons_succ])
  refine wpAnyH_take (i := 4) (v := ?_) rfl (by kernel_rfl) (by kernel_rfl) (by kernel_rfl) (fun _ _ _ h => h) (Or.inl ⟨by rfl, ?_⟩) hHeld ?_
  rotate_left
  · (intro w0 hSw; (try dsimp only at hSw); (first | (go_simp; done) | (go_simp; with_reducible rfl)))
  (try simp only [List.getElem_toArray, List.getElem_cons_zero, List.getElem_cons_succ, Act.put, List.setIfInBounds_toArray, List.set_cons_zero, List.set_cons_succ])
  refine wpAnyH_ready (rs := [2]) (by kernel_rfl) (by simp) (AllReadyH.cons rfl (fun K hK => ?_) AllReadyH.nil)
  go_simp
  refine (C5.out _).mono ?_; rintro ew5 w5 ⟨rfl, hbw5⟩; obtain ⟨hcw5, hfw5⟩ := bcell hbw5; (try simp only [World.size_drew, World.cell?_drew, World.frozen?_drew] at hcw5 hfw5); have hzw5 := hbw5.size; (try simp at hzw5); have : w.heap.size < w5.heap.size := (by omega); have : w.heap.size + 1 < w5.heap.size := (by omega); (try dsimp only); have : w3.heap.size < w5.heap.size := (by omega); have : w3.heap.size + 1 < w5.heap.size := (by omega)
  refine hK.out _ _ (by refine ⟨?_, ?_, ?_, ?_, ?_, ?_⟩ <;> go_simp) (fun hHeld2 => ?_)
  clear hK K hHeld; have hHeld := hHeld2; clear hHeld2
  (try simp only [List.getElem_toArray, List.getElem_cons_zero, List.getElem_cons_succ, Act.put, List.setIfInBounds_toArray, List.set_cons_zero, List.set_cons_succ])
  refine wpAnyH_ready (rs := [5]) (by kernel_rfl) (by simp) (AllReadyH.cons rfl (fun K hK => ?_) AllReadyH.nil)
  go_simp
  refine (C6.out _).mono ?_; rintro ew6 w6 ⟨rfl, hbw6⟩; obtain ⟨hcw6, hfw6⟩ := bcell hbw6; (try simp only [World.size_drew, World.cell?_drew, World.frozen?_drew] at hcw6 hfw6); have hzw6 := hbw6.size; (try simp at hzw6); have : w.heap.size < w6.heap.size := (by omega); have : w.heap.size + 1 < w6.heap.size := (by omega); (try dsimp only); have : w3.heap.size < w6.heap.size := (by omega); have : w3.heap.size + 1 < w6.heap.size := (by omega)
  refine hK.out _ _ (by refine ⟨?_, ?_, ?_, ?_, ?_, ?_⟩ <;> go_simp) (fun hHeld2 => ?_)
  clear hK K hHeld; have hHeld := hHeld2; clear hHeld2
  (try simp only [List.getElem_toArray, List.getElem_cons_zero, List.getElem_cons_succ, Act.put, List.setIfInBounds_toArray, List.set_cons_zero, List.set_cons_succ])
  refine wpAnyH_ready (rs := [6]) (by kernel_rfl) (by simp) (AllReadyH.cons rfl (fun K hK => ?_) AllReadyH.nil)
  go_simp
  refine hK.out _ _ (by refine ⟨?_, ?_, ?_, ?_, ?_, ?_⟩ <;> go_simp) (fun hHeld2 => ?_)
  clear hK K hHeld; have hHeld := hHeld2; clear hHeld2
  (try simp only [List.getElem_toArray, List.getElem_cons_zero, List.getElem_cons_succ, Act.put, List.setIfInBounds_toArray, List.set_cons_zero, List.set_cons_succ])
  refine wpAnyH_done (by kernel_rfl) ?_ _
  clear hHeld
  go_wp2
  refine bodyPost_ret (v := ZV (truncZ x)) (by simp [results, Try.results34, go_sem, *]) rfl ⟨rfl, ?_⟩
  repeat (first | (with_reducible exact Below.refl _ _) | (with_reducible refine Below.drew ?_) | (refine Below.setCell ?_ (by first | exact Nat.le_refl _ | (simp; done) | (simp; omega) | omega) _) | (refine Below.alloc ?_ (by first | exact Nat.le_refl _ | (simp; done) | (simp; omega) | omega) _) | (refine Below.trans ?_ (Below.mono (by assumption) (by first | exact Nat.le_refl _ | (simp; done) | (simp; omega) | omega))))
end Go.Proofs.Ytanfgolelhmdhaa
