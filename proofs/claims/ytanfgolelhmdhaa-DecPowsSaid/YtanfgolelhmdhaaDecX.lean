/- 'awake' of the statements of layer 1: the document's examples hold. -/
import Derived.Test.YtanfgolelhmdhaaDecW
import Derived.Test.YtanfgolelhmdhaaDecR
namespace Go.Proofs.Ytanfgolelhmdhaa
set_option linter.unusedSimpArgs false
set_option linter.unusedVariables false
set_option linter.unnecessarySimpa false
open Go.RowKit

theorem aw_div : fitR (((2 * 1000000 : Int) * 1000000).tdiv (3 * 1000000)) = (666666, 0) := by decide
theorem aw_mod : ((-7 * 1000000 : Int)).tmod (2 * 1000000) = -1000000 := by decide
theorem aw_pow : powR (2 * 1000000) (10 * 1000000) = (1024000000, 0) := by decide +kernel
theorem aw_cmp : cmpZ (-1000000) 1024000000 = -1 := by decide

def mA : Nat := 666666
def mB : Nat := 1000000
def mC : Nat := 1024000000
def i2 : Int := 2 * 1000000
def i3 : Int := 3 * 1000000
def i7 : Int := -7 * 1000000
def i10 : Int := 10 * 1000000
theorem small_top {z : Int} (h : z.natAbs ≤ 100000000000) : z.natAbs < topN := by rw [topN_eq]; omega

set_option maxRecDepth 100000 in
set_option maxHeartbeats 4000000 in
theorem awake_t (w : World) : Calls Try.prog 12 #[] w fun e w' => e = .returned (.bool true) ∧ Below w.heap.size w w' := by
  have I2 : Hid (∀ w, Calls Try.prog 32 #[.int .i64 2] w fun e w' => e = .returned (ZV i2) ∧ Below w.heap.size w w') := fun w => int_z 2 (by unfold i64B; omega) w
  have I3 : Hid (∀ w, Calls Try.prog 32 #[.int .i64 3] w fun e w' => e = .returned (ZV i3) ∧ Below w.heap.size w w') := fun w => int_z 3 (by unfold i64B; omega) w
  have I7 : Hid (∀ w, Calls Try.prog 32 #[.int .i64 (-7)] w fun e w' => e = .returned (ZV i7) ∧ Below w.heap.size w w') := fun w => int_z (-7) (by unfold i64B; omega) w
  have I10 : Hid (∀ w, Calls Try.prog 32 #[.int .i64 10] w fun e w' => e = .returned (ZV i10) ∧ Below w.heap.size w w') := fun w => int_z 10 (by unfold i64B; omega) w
  have I1 : Hid (∀ w, Calls Try.prog 32 #[.int .i64 (-1)] w fun e w' => e = .returned (MV true mB) ∧ Below w.heap.size w w') := fun w => int_z (-1) (by unfold i64B; omega) w
  have I1024 : Hid (∀ w, Calls Try.prog 32 #[.int .i64 1024] w fun e w' => e = .returned (MV false mC) ∧ Below w.heap.size w w') := fun w => int_z 1024 (by unfold i64B; omega) w
  have D : Hid (∀ w, Calls Try.prog 25 #[ZV i2, ZV i3] w fun e w' => e = .returned (.tuple #[MV false mA, .nilIface]) ∧ Below w.heap.size w w') := by
    intro w
    have h := div_z (2 * 1000000) (3 * 1000000) (small_top (by decide)) (small_top (by decide)) (by decide) w
    rw [aw_div] at h
    exact h
  have M : Hid (∀ w, Calls Try.prog 26 #[ZV i7, ZV i2] w fun e w' => e = .returned (.tuple #[MV true mB, .nilIface]) ∧ Below w.heap.size w w') := by
    intro w
    have h := mod_z (-7 * 1000000) (2 * 1000000) (small_top (by decide)) (small_top (by decide)) (by decide) w
    rw [aw_mod] at h
    exact h
  have Q : Hid (∀ w, Calls Try.prog 30 #[ZV i2, ZV i10] w fun e w' => e = .returned (.tuple #[MV false mC, .nilIface]) ∧ Below w.heap.size w w') := by
    intro w
    have h := pow_z (2 * 1000000) (10 * 1000000) (small_top (by decide)) (small_top (by decide)) w
    rw [aw_pow] at h
    exact h
  have K : Hid (∀ w, Calls Try.prog 18 #[MV true mB, MV false mC] w fun e w' => e = .returned (.int .i64 (-1)) ∧ Below w.heap.size w w') := by
    intro w
    have h := cmp_z (-1000000) 1024000000 (small_top (by decide)) (small_top (by decide)) w
    rw [aw_cmp] at h
    exact h
  have eA : ∀ w, (binOp .eql 24 (MV false mA) (.agg #[.bool false, .int .u64 0, .int .u64 666666])).run Try.prog w = .ok (.bool true) w := fun w => eql_mm false false mA 666666 w
  have eB : ∀ w, (binOp .eql 24 (MV true mB) (MV true mB)).run Try.prog w = .ok (.bool true) w := fun w => eql_mm true true mB mB w
  have eC : ∀ w, (binOp .eql 24 (MV false mC) (MV false mC)).run Try.prog w = .ok (.bool true) w := fun w => eql_mm false false mC mC w
  go_enter Try.func12, Try.ntmps12
  go_wp2_with fail; refine (I2.out _).mono ?_; rintro ew1 w1 ⟨rfl, hbw1⟩; obtain ⟨hcw1, hfw1⟩ := bcell hbw1; (try simp only [World.size_drew, World.cell?_drew, World.frozen?_drew] at hcw1 hfw1); have hzw1 := hbw1.size; (try simp at hzw1); (try dsimp only)
  go_wp2_with fail; refine (I3.out _).mono ?_; rintro ew2 w2 ⟨rfl, hbw2⟩; obtain ⟨hcw2, hfw2⟩ := bcell hbw2; (try simp only [World.size_drew, World.cell?_drew, World.frozen?_drew] at hcw2 hfw2); have hzw2 := hbw2.size; (try simp at hzw2); (try dsimp only)
  go_wp2_with fail; refine (D.out _).mono ?_; rintro ew3 w3 ⟨rfl, hbw3⟩; obtain ⟨hcw3, hfw3⟩ := bcell hbw3; (try simp only [World.size_drew, World.cell?_drew, World.frozen?_drew] at hcw3 hfw3); have hzw3 := hbw3.size; (try simp at hzw3); (try dsimp only)
  have hB3 : Below w.heap.size w w3 := by repeat (first | (with_reducible exact Below.refl _ _) | (with_reducible refine Below.drew ?_) | (refine Below.setCell ?_ (by first | exact Nat.le_refl _ | (simp; done) | (simp; omega) | omega) _) | (refine Below.alloc ?_ (by first | exact Nat.le_refl _ | (simp; done) | (simp; omega) | omega) _) | (refine Below.trans ?_ (Below.mono (by assumption) (by first | exact Nat.le_refl _ | (simp; done) | (simp; omega) | omega))))
  have hs3 := hB3.size
  clear hbw1 hcw1 hfw1 hzw1 hbw2 hcw2 hfw2 hzw2 hbw3 hcw3 hfw3 hzw3
  go_wp2_with fail; refine (I7.out _).mono ?_; rintro ew4 w4 ⟨rfl, hbw4⟩; obtain ⟨hcw4, hfw4⟩ := bcell hbw4; (try simp only [World.size_drew, World.cell?_drew, World.frozen?_drew] at hcw4 hfw4); have hzw4 := hbw4.size; (try simp at hzw4); (try dsimp only)
  go_wp2_with fail; refine (I2.out _).mono ?_; rintro ew5 w5 ⟨rfl, hbw5⟩; obtain ⟨hcw5, hfw5⟩ := bcell hbw5; (try simp only [World.size_drew, World.cell?_drew, World.frozen?_drew] at hcw5 hfw5); have hzw5 := hbw5.size; (try simp at hzw5); (try dsimp only)
  go_wp2_with fail; refine (M.out _).mono ?_; rintro ew6 w6 ⟨rfl, hbw6⟩; obtain ⟨hcw6, hfw6⟩ := bcell hbw6; (try simp only [World.size_drew, World.cell?_drew, World.frozen?_drew] at hcw6 hfw6); have hzw6 := hbw6.size; (try simp at hzw6); (try dsimp only)
  have : w3.heap.size < w4.heap.size := by omega
  have : w3.heap.size < w5.heap.size := by omega
  have : w3.heap.size < w6.heap.size := by omega
  have a0 : w6.cell? ⟨w3.heap.size, 0, none⟩ = some (.bool false) := by go_simp
  have a1 : w6.cell? ⟨w3.heap.size, 1, none⟩ = some (.int .u64 (hiN mA : Int)) := by go_simp
  have a2 : w6.cell? ⟨w3.heap.size, 2, none⟩ = some (.int .u64 (loN mA : Int)) := by go_simp
  have hB6 : Below w.heap.size w w6 := by repeat (first | (with_reducible exact Below.refl _ _) | (with_reducible refine Below.drew ?_) | (refine Below.setCell ?_ (by first | exact Nat.le_refl _ | (simp; done) | (simp; omega) | omega) _) | (refine Below.alloc ?_ (by first | exact Nat.le_refl _ | (simp; done) | (simp; omega) | omega) _) | (refine Below.trans ?_ (Below.mono (by assumption) (by first | exact Nat.le_refl _ | (simp; done) | (simp; omega) | omega))))
  have hs6 := hB6.size
  have hw36 : w3.heap.size + 1 ≤ w6.heap.size := by omega
  clear hbw4 hcw4 hfw4 hzw4 hbw5 hcw5 hfw5 hzw5 hbw6 hcw6 hfw6 hzw6
  go_wp2_with fail; refine (I2.out _).mono ?_; rintro ew7 w7 ⟨rfl, hbw7⟩; obtain ⟨hcw7, hfw7⟩ := bcell hbw7; (try simp only [World.size_drew, World.cell?_drew, World.frozen?_drew] at hcw7 hfw7); have hzw7 := hbw7.size; (try simp at hzw7); (try dsimp only)
  go_wp2_with fail; refine (I10.out _).mono ?_; rintro ew8 w8 ⟨rfl, hbw8⟩; obtain ⟨hcw8, hfw8⟩ := bcell hbw8; (try simp only [World.size_drew, World.cell?_drew, World.frozen?_drew] at hcw8 hfw8); have hzw8 := hbw8.size; (try simp at hzw8); (try dsimp only)
  go_wp2_with fail; refine (Q.out _).mono ?_; rintro ew9 w9 ⟨rfl, hbw9⟩; obtain ⟨hcw9, hfw9⟩ := bcell hbw9; (try simp only [World.size_drew, World.cell?_drew, World.frozen?_drew] at hcw9 hfw9); have hzw9 := hbw9.size; (try simp at hzw9); (try dsimp only)
  have : w6.heap.size < w7.heap.size := by omega
  have : w6.heap.size < w8.heap.size := by omega
  have : w6.heap.size < w9.heap.size := by omega
  have : w3.heap.size < w6.heap.size := by omega
  have : w3.heap.size < w6.heap.size + 1 := by omega
  have : w3.heap.size < w7.heap.size := by omega
  have : w3.heap.size < w8.heap.size := by omega
  have : w3.heap.size < w9.heap.size := by omega
  have b0 : w9.cell? ⟨w6.heap.size, 0, none⟩ = some (.bool true) := by go_simp
  have b1 : w9.cell? ⟨w6.heap.size, 1, none⟩ = some (.int .u64 (hiN mB : Int)) := by go_simp
  have b2 : w9.cell? ⟨w6.heap.size, 2, none⟩ = some (.int .u64 (loN mB : Int)) := by go_simp
  have d0 : w9.cell? ⟨w3.heap.size, 0, none⟩ = some (.bool false) := by go_simp
  have d1 : w9.cell? ⟨w3.heap.size, 1, none⟩ = some (.int .u64 (hiN mA : Int)) := by go_simp
  have d2 : w9.cell? ⟨w3.heap.size, 2, none⟩ = some (.int .u64 (loN mA : Int)) := by go_simp
  have hB9 : Below w.heap.size w w9 := by repeat (first | (with_reducible exact Below.refl _ _) | (with_reducible refine Below.drew ?_) | (refine Below.setCell ?_ (by first | exact Nat.le_refl _ | (simp; done) | (simp; omega) | omega) _) | (refine Below.alloc ?_ (by first | exact Nat.le_refl _ | (simp; done) | (simp; omega) | omega) _) | (refine Below.trans ?_ (Below.mono (by assumption) (by first | exact Nat.le_refl _ | (simp; done) | (simp; omega) | omega))))
  have hs9 := hB9.size
  have hw69 : w6.heap.size + 1 ≤ w9.heap.size := by omega
  clear a0 a1 a2 hbw7 hcw7 hfw7 hzw7 hbw8 hcw8 hfw8 hzw8 hbw9 hcw9 hfw9 hzw9
  go_wp2_with fail
  go_region_held3 (fun w' => w'.cell? ⟨w3.heap.size, 0, none⟩ = some (.bool false) ∧ w'.cell? ⟨w3.heap.size, 1, none⟩ = some (.int .u64 (hiN mA : Int)) ∧ w'.cell? ⟨w3.heap.size, 2, none⟩ = some (.int .u64 (loN mA : Int)) ∧
      w'.cell? ⟨w6.heap.size, 0, none⟩ = some (.bool true) ∧ w'.cell? ⟨w6.heap.size, 1, none⟩ = some (.int .u64 (hiN mB : Int)) ∧ w'.cell? ⟨w6.heap.size, 2, none⟩ = some (.int .u64 (loN mB : Int)) ∧
      w'.cell? ⟨w9.heap.size, 0, none⟩ = some (.bool false) ∧ w'.cell? ⟨w9.heap.size, 1, none⟩ = some (.int .u64 (hiN mC : Int)) ∧ w'.cell? ⟨w9.heap.size, 2, none⟩ = some (.int .u64 (loN mC : Int)))
    ((refine ⟨?_, ?_, ?_, ?_, ?_, ?_, ?_, ?_, ?_⟩ <;> go_simp))
    (first
      | (go_at_call 32; with_reducible refine (I1.out _).mono ?_; rintro e wa ⟨rfl, hba⟩; obtain ⟨hca, hfa⟩ := bcell hba; (try simp only [World.size_drew, World.cell?_drew, World.frozen?_drew] at hca hfa); have hza := hba.size; (try simp at hza); have : w3.heap.size < wa.heap.size := (by omega); have : w6.heap.size < wa.heap.size := (by omega); have : w9.heap.size < wa.heap.size := (by omega))
      | (go_at_call 32; with_reducible refine (I1024.out _).mono ?_; rintro e wb ⟨rfl, hbb⟩; obtain ⟨hcb, hfb⟩ := bcell hbb; (try simp only [World.size_drew, World.cell?_drew, World.frozen?_drew] at hcb hfb); have hzb := hbb.size; (try simp at hzb); have : w3.heap.size < wb.heap.size := (by omega); have : w6.heap.size < wb.heap.size := (by omega); have : w9.heap.size < wb.heap.size := (by omega))
      | (go_at_call 18; refine (K.out _).mono ?_; rintro e wc ⟨rfl, hbc⟩; obtain ⟨hcc, hfc⟩ := bcell hbc; (try simp only [World.size_drew, World.cell?_drew, World.frozen?_drew] at hcc hfc); have hzc := hbc.size; (try simp at hzc); have : w3.heap.size < wc.heap.size := (by omega); have : w6.heap.size < wc.heap.size := (by omega); have : w9.heap.size < wc.heap.size := (by omega)))
  go_wp2
  go_ret
  refine ⟨rfl, ?_⟩
  repeat (first | (with_reducible exact Below.refl _ _) | (with_reducible refine Below.drew ?_) | (refine Below.setCell ?_ (by first | exact Nat.le_refl _ | (simp; done) | (simp; omega) | omega) _) | (refine Below.alloc ?_ (by first | exact Nat.le_refl _ | (simp; done) | (simp; omega) | omega) _) | (refine Below.trans ?_ (Below.mono (by assumption) (by first | exact Nat.le_refl _ | (simp; done) | (simp; omega) | omega))))
end Go.Proofs.Ytanfgolelhmdhaa
