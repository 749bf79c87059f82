/- The contracts of dec.Div, dec.Mod on right numbers, and on others. -/
import Derived.Test.YtanfgolelhmdhaaDecI
import Derived.Deep.Cut
namespace Go.Proofs.Ytanfgolelhmdhaa
set_option linter.unusedSimpArgs false
set_option linter.unusedVariables false
set_option linter.unnecessarySimpa false
open Go.RowKit

theorem div_bad (n n' : Bool) (m m' : Nat) (h : (goodB n m && goodB n' m') = false) (w : World) :
    Calls Try.prog 25 #[MV n m, MV n' m'] w fun e w' => e = .returned (RV (0, 1)) ∧ Below w.heap.size w w' := by
  have C1 := Lib.hid (divisible_bad n n' m m' h)
  clear h
  go_enter Try.func25, Try.ntmps25
  go_wp2_with fail; refine (C1.out _).mono ?_; rintro ew1 w1 ⟨rfl, hbw1⟩; obtain ⟨hcw1, hfw1⟩ := bcell hbw1; (try simp only [World.size_drew, World.cell?_drew, World.frozen?_drew] at hcw1 hfw1); have hzw1 := hbw1.size; (try simp at hzw1); have : w.heap.size < w1.heap.size := (by omega); have : w.heap.size + 1 < w1.heap.size := (by omega); have : w.heap.size + 1 + 1 < w1.heap.size := (by omega); (try dsimp only)
  go_wp2
  refine bodyPost_ret (v := .tuple #[.agg #[.bool false, .int .u64 0, .int .u64 0], .iface 51 (.int .i64 1)]) (by simp [results, Try.results25, go_sem, *]) rfl ⟨rfl, ?_⟩
  repeat (first | (with_reducible exact Below.refl _ _) | (with_reducible refine Below.drew ?_) | (refine Below.setCell ?_ (by first | exact Nat.le_refl _ | (simp; done) | (simp; omega) | omega) _) | (refine Below.alloc ?_ (by first | exact Nat.le_refl _ | (simp; done) | (simp; omega) | omega) _) | (refine Below.trans ?_ (Below.mono (by assumption) (by first | exact Nat.le_refl _ | (simp; done) | (simp; omega) | omega))))

theorem div_0 (x : Int) (hx : x.natAbs < topN) (w : World) :
    Calls Try.prog 25 #[ZV x, ZV 0] w fun e w' => e = .returned (RV (0, 3)) ∧ Below w.heap.size w w' := by
  have C1 := Lib.hid (divisible_0 (negZ x) false x.natAbs (by rw [goodB_z]; simpa using hx) (by decide))
  clear hx
  go_enter Try.func25, Try.ntmps25
  go_wp2_with fail; refine (C1.out _).mono ?_; rintro ew1 w1 ⟨rfl, hbw1⟩; obtain ⟨hcw1, hfw1⟩ := bcell hbw1; (try simp only [World.size_drew, World.cell?_drew, World.frozen?_drew] at hcw1 hfw1); have hzw1 := hbw1.size; (try simp at hzw1); have : w.heap.size < w1.heap.size := (by omega); have : w.heap.size + 1 < w1.heap.size := (by omega); have : w.heap.size + 1 + 1 < w1.heap.size := (by omega); (try dsimp only)
  go_wp2
  refine bodyPost_ret (v := .tuple #[.agg #[.bool false, .int .u64 0, .int .u64 0], .iface 51 (.int .i64 3)]) (by simp [results, Try.results25, go_sem, *]) rfl ⟨rfl, ?_⟩
  repeat (first | (with_reducible exact Below.refl _ _) | (with_reducible refine Below.drew ?_) | (refine Below.setCell ?_ (by first | exact Nat.le_refl _ | (simp; done) | (simp; omega) | omega) _) | (refine Below.alloc ?_ (by first | exact Nat.le_refl _ | (simp; done) | (simp; omega) | omega) _) | (refine Below.trans ?_ (Below.mono (by assumption) (by first | exact Nat.le_refl _ | (simp; done) | (simp; omega) | omega))))

theorem mod_bad (n n' : Bool) (m m' : Nat) (h : (goodB n m && goodB n' m') = false) (w : World) :
    Calls Try.prog 26 #[MV n m, MV n' m'] w fun e w' => e = .returned (RV (0, 1)) ∧ Below w.heap.size w w' := by
  have C1 := Lib.hid (divisible_bad n n' m m' h)
  clear h
  go_enter Try.func26, Try.ntmps26
  go_wp2_with fail; refine (C1.out _).mono ?_; rintro ew1 w1 ⟨rfl, hbw1⟩; obtain ⟨hcw1, hfw1⟩ := bcell hbw1; (try simp only [World.size_drew, World.cell?_drew, World.frozen?_drew] at hcw1 hfw1); have hzw1 := hbw1.size; (try simp at hzw1); have : w.heap.size < w1.heap.size := (by omega); have : w.heap.size + 1 < w1.heap.size := (by omega); have : w.heap.size + 1 + 1 < w1.heap.size := (by omega); (try dsimp only)
  go_wp2
  refine bodyPost_ret (v := .tuple #[.agg #[.bool false, .int .u64 0, .int .u64 0], .iface 51 (.int .i64 1)]) (by simp [results, Try.results26, go_sem, *]) rfl ⟨rfl, ?_⟩
  repeat (first | (with_reducible exact Below.refl _ _) | (with_reducible refine Below.drew ?_) | (refine Below.setCell ?_ (by first | exact Nat.le_refl _ | (simp; done) | (simp; omega) | omega) _) | (refine Below.alloc ?_ (by first | exact Nat.le_refl _ | (simp; done) | (simp; omega) | omega) _) | (refine Below.trans ?_ (Below.mono (by assumption) (by first | exact Nat.le_refl _ | (simp; done) | (simp; omega) | omega))))

theorem mod_0 (x : Int) (hx : x.natAbs < topN) (w : World) :
    Calls Try.prog 26 #[ZV x, ZV 0] w fun e w' => e = .returned (RV (0, 3)) ∧ Below w.heap.size w w' := by
  have C1 := Lib.hid (divisible_0 (negZ x) false x.natAbs (by rw [goodB_z]; simpa using hx) (by decide))
  clear hx
  go_enter Try.func26, Try.ntmps26
  go_wp2_with fail; refine (C1.out _).mono ?_; rintro ew1 w1 ⟨rfl, hbw1⟩; obtain ⟨hcw1, hfw1⟩ := bcell hbw1; (try simp only [World.size_drew, World.cell?_drew, World.frozen?_drew] at hcw1 hfw1); have hzw1 := hbw1.size; (try simp at hzw1); have : w.heap.size < w1.heap.size := (by omega); have : w.heap.size + 1 < w1.heap.size := (by omega); have : w.heap.size + 1 + 1 < w1.heap.size := (by omega); (try dsimp only)
  go_wp2
  refine bodyPost_ret (v := .tuple #[.agg #[.bool false, .int .u64 0, .int .u64 0], .iface 51 (.int .i64 3)]) (by simp [results, Try.results26, go_sem, *]) rfl ⟨rfl, ?_⟩
  repeat (first | (with_reducible exact Below.refl _ _) | (with_reducible refine Below.drew ?_) | (refine Below.setCell ?_ (by first | exact Nat.le_refl _ | (simp; done) | (simp; omega) | omega) _) | (refine Below.alloc ?_ (by first | exact Nat.le_refl _ | (simp; done) | (simp; omega) | omega) _) | (refine Below.trans ?_ (Below.mono (by assumption) (by first | exact Nat.le_refl _ | (simp; done) | (simp; omega) | omega))))

/-- Behind the long division: its quotient lies in a block of the call's own. -/
def CutD (w : World) (x y : Int) (q : Nat) (t7 : Value) (w' : World) : Prop := ∃ b : Nat, t7 = .pointer (some ⟨b, 0, none⟩) ∧
  w'.cell? ⟨b, 0, none⟩ = some (.int .u64 (l0 q : Int)) ∧ w'.cell? ⟨b, 1, none⟩ = some (.int .u64 (l1 q : Int)) ∧ w'.cell? ⟨b, 2, none⟩ = some (.int .u64 (l2 q : Int)) ∧ w'.cell? ⟨b, 3, none⟩ = some (.int .u64 (l3 q : Int)) ∧
  w'.cell? ⟨w.heap.size, 0, none⟩ = some (.bool (negZ x)) ∧ w'.cell? ⟨w.heap.size + 1, 0, none⟩ = some (.bool (negZ y)) ∧
  w'.cell? ⟨w.heap.size + 1 + 1, 0, none⟩ = some (.bool false) ∧ w'.cell? ⟨w.heap.size + 1 + 1, 1, none⟩ = some (.int .u64 0) ∧ w'.cell? ⟨w.heap.size + 1 + 1, 2, none⟩ = some (.int .u64 0) ∧
  w'.frozen? ⟨w.heap.size + 1 + 1, 0, none⟩ = false ∧ w'.frozen? ⟨w.heap.size + 1 + 1, 1, none⟩ = false ∧ w'.frozen? ⟨w.heap.size + 1 + 1, 2, none⟩ = false ∧
  Below w.heap.size w w' ∧ w.heap.size + 1 + 1 + 1 ≤ w'.heap.size

set_option maxHeartbeats 4000000 in
theorem div_z (x y : Int) (hx : x.natAbs < topN) (hy : y.natAbs < topN) (h0 : y ≠ 0) (w : World) :
    Calls Try.prog 25 #[ZV x, ZV y] w fun e w' => e = .returned (RV (fitR ((x * 1000000).tdiv y))) ∧ Below w.heap.size w w' := by
  have C1 := Lib.hid (divisible_ok (negZ x) (negZ y) x.natAbs y.natAbs (by rw [goodB_z]; simpa using hx) (by rw [goodB_z]; simpa using hy) (by omega))
  have C3 : Hid (∀ w, Calls Try.prog 54 #[ZV x, .agg #[.bool false, .int .u64 0, .int .u64 1000000]] w fun e w' => e = .returned (QV (x.natAbs * 1000000)) ∧ Below w.heap.size w w') := by
    intro w
    rw [← million_hi, ← million_lo]
    exact product_m (negZ x) false x.natAbs 1000000 (by rw [topN_eq] at hx; omega) (by omega) w
  have C4 : Hid (∀ w, Calls Try.prog 53 #[QV (x.natAbs * 1000000), ZV y] w fun e w' => e = .returned (.tuple #[QV (x.natAbs * 1000000 / y.natAbs), MV false (x.natAbs * 1000000 % y.natAbs)]) ∧ Below w.heap.size w w') :=
    fun w => divide_m (x.natAbs * 1000000) y.natAbs (negZ y) (by omega) (by rw [topN_eq] at hy; omega) (by rw [topN_eq] at hx; omega) w
  have C5 : Hid (∀ w, Calls Try.prog 39 #[QV (x.natAbs * 1000000 / y.natAbs), .bool (negZ x != negZ y)] w fun e w' => e = .returned (RV (fitR ((x * 1000000).tdiv y))) ∧ Below w.heap.size w w') := by
    intro w
    refine (fit_m (x.natAbs * 1000000 / y.natAbs) (negZ x != negZ y) (Nat.lt_of_le_of_lt (Nat.div_le_self _ _) (by rw [topN_eq] at hx; omega)) w).mono ?_
    rintro e w' ⟨rfl, hb⟩
    exact ⟨ret_v (ret_fit (div_abs x y).symm div_sgn), hb⟩
  clear hx hy h0
  go_enter Try.func25, Try.ntmps25
  go_wp2_with fail; refine (C1.out _).mono ?_; rintro ew1 w1 ⟨rfl, hbw1⟩; obtain ⟨hcw1, hfw1⟩ := bcell hbw1; (try simp only [World.size_drew, World.cell?_drew, World.frozen?_drew] at hcw1 hfw1); have hzw1 := hbw1.size; (try simp at hzw1); have : w.heap.size < w1.heap.size := (by omega); have : w.heap.size + 1 < w1.heap.size := (by omega); have : w.heap.size + 1 + 1 < w1.heap.size := (by omega); (try dsimp only)
  go_upto_region 4 with fail
  have k0 : w1.cell? ⟨w.heap.size, 0, none⟩ = some (.bool (negZ x)) := by go_simp
  have k1 : w1.cell? ⟨w.heap.size, 1, none⟩ = some (.int .u64 (hiN x.natAbs : Int)) := by go_simp
  have k2 : w1.cell? ⟨w.heap.size, 2, none⟩ = some (.int .u64 (loN x.natAbs : Int)) := by go_simp
  have k3 : w1.cell? ⟨w.heap.size + 1, 0, none⟩ = some (.bool (negZ y)) := by go_simp
  have k4 : w1.cell? ⟨w.heap.size + 1, 1, none⟩ = some (.int .u64 (hiN y.natAbs : Int)) := by go_simp
  have k5 : w1.cell? ⟨w.heap.size + 1, 2, none⟩ = some (.int .u64 (loN y.natAbs : Int)) := by go_simp
  have r0 : w1.cell? ⟨w.heap.size + 1 + 1, 0, none⟩ = some (.bool false) := by go_simp
  have r1 : w1.cell? ⟨w.heap.size + 1 + 1, 1, none⟩ = some (.int .u64 0) := by go_simp
  have r2 : w1.cell? ⟨w.heap.size + 1 + 1, 2, none⟩ = some (.int .u64 0) := by go_simp
  have z0 : w1.frozen? ⟨w.heap.size + 1 + 1, 0, none⟩ = false := by go_simp
  have z1 : w1.frozen? ⟨w.heap.size + 1 + 1, 1, none⟩ = false := by go_simp
  have z2 : w1.frozen? ⟨w.heap.size + 1 + 1, 2, none⟩ = false := by go_simp
  have hB1 : Below w.heap.size w w1 := by repeat (first | (with_reducible exact Below.refl _ _) | (with_reducible refine Below.drew ?_) | (refine Below.setCell ?_ (by first | exact Nat.le_refl _ | (simp; done) | (simp; omega) | omega) _) | (refine Below.alloc ?_ (by first | exact Nat.le_refl _ | (simp; done) | (simp; omega) | omega) _) | (refine Below.trans ?_ (Below.mono (by assumption) (by first | exact Nat.le_refl _ | (simp; done) | (simp; omega) | omega))))
  have : w.heap.size < w1.heap.size + 1 := (by omega)
  have : w.heap.size < w1.heap.size + 1 + 1 := (by omega)
  have : w.heap.size + 1 < w1.heap.size + 1 := (by omega)
  have : w.heap.size + 1 < w1.heap.size + 1 + 1 := (by omega)
  have : w.heap.size + 1 + 1 < w1.heap.size + 1 := (by omega)
  have : w.heap.size + 1 + 1 < w1.heap.size + 1 + 1 := (by omega)
  clear hbw1 hcw1 hfw1
  generalize x.natAbs * 1000000 / y.natAbs = q at *
  generalize x.natAbs * 1000000 % y.natAbs = r at *
  go_cut [7, 8] from 9 (fun t7 _ w' => CutD w x y q t7 w')
  case first =>
    go_region_held3 (fun w' => w'.cell? ⟨w.heap.size, 0, none⟩ = some (.bool (negZ x)) ∧ w'.cell? ⟨w.heap.size, 1, none⟩ = some (.int .u64 (hiN x.natAbs : Int)) ∧ w'.cell? ⟨w.heap.size, 2, none⟩ = some (.int .u64 (loN x.natAbs : Int)) ∧
      w'.cell? ⟨w.heap.size + 1, 0, none⟩ = some (.bool (negZ y)) ∧ w'.cell? ⟨w.heap.size + 1, 1, none⟩ = some (.int .u64 (hiN y.natAbs : Int)) ∧ w'.cell? ⟨w.heap.size + 1, 2, none⟩ = some (.int .u64 (loN y.natAbs : Int))) ((refine ⟨?_, ?_, ?_, ?_, ?_, ?_⟩ <;> go_simp))
      (first
        | (go_at_call 54; refine (C3.out _).mono ?_; rintro ew3 w3 ⟨rfl, hbw3⟩; obtain ⟨hcw3, hfw3⟩ := bcell hbw3; (try simp only [World.size_drew, World.cell?_drew, World.frozen?_drew] at hcw3 hfw3); have hzw3 := hbw3.size; (try simp at hzw3); have : w.heap.size < w3.heap.size := (by omega); have : w.heap.size + 1 < w3.heap.size := (by omega); have : w.heap.size + 1 + 1 < w3.heap.size := (by omega); (try dsimp only); have : w.heap.size < w3.heap.size + 1 := (by omega); have : w.heap.size < w3.heap.size + 1 + 1 := (by omega); have : w.heap.size + 1 < w3.heap.size + 1 := (by omega); have : w.heap.size + 1 < w3.heap.size + 1 + 1 := (by omega); have : w.heap.size + 1 + 1 < w3.heap.size + 1 := (by omega); have : w.heap.size + 1 + 1 < w3.heap.size + 1 + 1 := (by omega); (try have : w1.heap.size < w3.heap.size := (by omega)); (try have : w1.heap.size + 1 < w3.heap.size := (by omega)))
        | (go_at_call 53; refine (C4.out _).mono ?_; rintro ew4 w4 ⟨rfl, hbw4⟩; obtain ⟨hcw4, hfw4⟩ := bcell hbw4; (try simp only [World.size_drew, World.cell?_drew, World.frozen?_drew] at hcw4 hfw4); have hzw4 := hbw4.size; (try simp at hzw4); have : w.heap.size < w4.heap.size := (by omega); have : w.heap.size + 1 < w4.heap.size := (by omega); have : w.heap.size + 1 + 1 < w4.heap.size := (by omega); (try dsimp only); (try have : w1.heap.size < w4.heap.size := (by omega)); (try have : w1.heap.size + 1 < w4.heap.size := (by omega)); (try have : w3.heap.size < w4.heap.size := (by omega)); (try have : w3.heap.size + 1 < w4.heap.size := (by omega))))
    all_goals
      go_wp2_with fail
      go_meet
      case rel =>
        refine ⟨_, rfl, ?_, ?_, ?_, ?_, ?_, ?_, ?_, ?_, ?_, ?_, ?_, ?_, ?_, ?_⟩
        · (repeat (first | ((with_reducible refine cell_other ?_ ?_); (focus (first | (simp; done) | (simp; omega)))) | ((with_reducible refine cell_lt ?_ ?_); (focus (first | (simp; done) | (simp; omega)))) | (with_reducible refine cell_same ?_) | ((with_reducible refine ex_other ?_ ?_); (focus (first | (simp; done) | (simp; omega)))) | ((with_reducible refine ex_lt ?_ ?_); (focus (first | (simp; done) | (simp; omega)))))); (first | (go_simp; done) | (go_simp; refine ⟨_, rfl⟩))
        · (repeat (first | ((with_reducible refine cell_other ?_ ?_); (focus (first | (simp; done) | (simp; omega)))) | ((with_reducible refine cell_lt ?_ ?_); (focus (first | (simp; done) | (simp; omega)))) | (with_reducible refine cell_same ?_) | ((with_reducible refine ex_other ?_ ?_); (focus (first | (simp; done) | (simp; omega)))) | ((with_reducible refine ex_lt ?_ ?_); (focus (first | (simp; done) | (simp; omega)))))); (first | (go_simp; done) | (go_simp; refine ⟨_, rfl⟩))
        · (repeat (first | ((with_reducible refine cell_other ?_ ?_); (focus (first | (simp; done) | (simp; omega)))) | ((with_reducible refine cell_lt ?_ ?_); (focus (first | (simp; done) | (simp; omega)))) | (with_reducible refine cell_same ?_) | ((with_reducible refine ex_other ?_ ?_); (focus (first | (simp; done) | (simp; omega)))) | ((with_reducible refine ex_lt ?_ ?_); (focus (first | (simp; done) | (simp; omega)))))); (first | (go_simp; done) | (go_simp; refine ⟨_, rfl⟩))
        · (repeat (first | ((with_reducible refine cell_other ?_ ?_); (focus (first | (simp; done) | (simp; omega)))) | ((with_reducible refine cell_lt ?_ ?_); (focus (first | (simp; done) | (simp; omega)))) | (with_reducible refine cell_same ?_) | ((with_reducible refine ex_other ?_ ?_); (focus (first | (simp; done) | (simp; omega)))) | ((with_reducible refine ex_lt ?_ ?_); (focus (first | (simp; done) | (simp; omega)))))); (first | (go_simp; done) | (go_simp; refine ⟨_, rfl⟩))
        · (repeat (first | ((with_reducible refine cell_other ?_ ?_); (focus (first | (simp; done) | (simp; omega)))) | ((with_reducible refine cell_lt ?_ ?_); (focus (first | (simp; done) | (simp; omega)))) | (with_reducible refine cell_same ?_) | ((with_reducible refine ex_other ?_ ?_); (focus (first | (simp; done) | (simp; omega)))) | ((with_reducible refine ex_lt ?_ ?_); (focus (first | (simp; done) | (simp; omega)))))); (first | (go_simp; done) | (go_simp; refine ⟨_, rfl⟩))
        · (repeat (first | ((with_reducible refine cell_other ?_ ?_); (focus (first | (simp; done) | (simp; omega)))) | ((with_reducible refine cell_lt ?_ ?_); (focus (first | (simp; done) | (simp; omega)))) | (with_reducible refine cell_same ?_) | ((with_reducible refine ex_other ?_ ?_); (focus (first | (simp; done) | (simp; omega)))) | ((with_reducible refine ex_lt ?_ ?_); (focus (first | (simp; done) | (simp; omega)))))); (first | (go_simp; done) | (go_simp; refine ⟨_, rfl⟩))
        · (repeat (first | ((with_reducible refine cell_other ?_ ?_); (focus (first | (simp; done) | (simp; omega)))) | ((with_reducible refine cell_lt ?_ ?_); (focus (first | (simp; done) | (simp; omega)))) | (with_reducible refine cell_same ?_) | ((with_reducible refine ex_other ?_ ?_); (focus (first | (simp; done) | (simp; omega)))) | ((with_reducible refine ex_lt ?_ ?_); (focus (first | (simp; done) | (simp; omega)))))); (first | (go_simp; done) | (go_simp; refine ⟨_, rfl⟩))
        · (repeat (first | ((with_reducible refine cell_other ?_ ?_); (focus (first | (simp; done) | (simp; omega)))) | ((with_reducible refine cell_lt ?_ ?_); (focus (first | (simp; done) | (simp; omega)))) | (with_reducible refine cell_same ?_) | ((with_reducible refine ex_other ?_ ?_); (focus (first | (simp; done) | (simp; omega)))) | ((with_reducible refine ex_lt ?_ ?_); (focus (first | (simp; done) | (simp; omega)))))); (first | (go_simp; done) | (go_simp; refine ⟨_, rfl⟩))
        · (repeat (first | ((with_reducible refine cell_other ?_ ?_); (focus (first | (simp; done) | (simp; omega)))) | ((with_reducible refine cell_lt ?_ ?_); (focus (first | (simp; done) | (simp; omega)))) | (with_reducible refine cell_same ?_) | ((with_reducible refine ex_other ?_ ?_); (focus (first | (simp; done) | (simp; omega)))) | ((with_reducible refine ex_lt ?_ ?_); (focus (first | (simp; done) | (simp; omega)))))); (first | (go_simp; done) | (go_simp; refine ⟨_, rfl⟩))
        · go_simp
        · go_simp
        · go_simp
        · repeat (first | (with_reducible exact Below.refl _ _) | (with_reducible refine Below.drew ?_) | (refine Below.setCell ?_ (by first | exact Nat.le_refl _ | (simp; done) | (simp; omega) | omega) _) | (refine Below.alloc ?_ (by first | exact Nat.le_refl _ | (simp; done) | (simp; omega) | omega) _) | (refine Below.trans ?_ (Below.mono (by assumption) (by first | exact Nat.le_refl _ | (simp; done) | (simp; omega) | omega))))
        · (first | omega | (simp; omega))
  case rest =>
    clear r0 r1 r2 z0 z1 z2
    obtain ⟨b, rfl, q0, q1, q2, q3, x0, y0, z0, z1, z2, f0, f1, f2, hB, hz⟩ := hcut
    obtain ⟨_, _, _⟩ := zs3 hz
    clear k0 k1 k2 k3 k4 k5 hB1 hzw1
    go_wp2_with fail; refine (C5.out _).mono ?_; rintro ew5 w5 ⟨rfl, hbw5⟩; obtain ⟨hcw5, hfw5⟩ := bcell hbw5; (try simp only [World.size_drew, World.cell?_drew, World.frozen?_drew] at hcw5 hfw5); have hzw5 := hbw5.size; (try simp at hzw5); have : w.heap.size < w5.heap.size := (by omega); have : w.heap.size + 1 < w5.heap.size := (by omega); have : w.heap.size + 1 + 1 < w5.heap.size := (by omega); (try dsimp only)
    go_wp2
    refine bodyPost_ret (v := RV (fitR ((x * 1000000).tdiv y))) (by simp [results, Try.results25, go_sem, *]) rfl ⟨rfl, ?_⟩
    repeat (first | (with_reducible exact Below.refl _ _) | (with_reducible refine Below.drew ?_) | (refine Below.setCell ?_ (by first | exact Nat.le_refl _ | (simp; done) | (simp; omega) | omega) _) | (refine Below.alloc ?_ (by first | exact Nat.le_refl _ | (simp; done) | (simp; omega) | omega) _) | (refine Below.trans ?_ (Below.mono (by assumption) (by first | exact Nat.le_refl _ | (simp; done) | (simp; omega) | omega))))
end Go.Proofs.Ytanfgolelhmdhaa
