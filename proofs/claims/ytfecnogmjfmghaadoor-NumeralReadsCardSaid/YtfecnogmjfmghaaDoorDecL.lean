/- The contracts of dec.Mod, dec.Trunc on right numbers, and on others. -/
import Derived.Test.YtfecnogmjfmghaaDoorDecJ
namespace Go.Proofs.YtfecnogmjfmghaaDoor
set_option linter.unusedSimpArgs false
set_option linter.unusedVariables false
set_option linter.unnecessarySimpa false
open Go.RowKit

/-- Behind the long division: its rest lies in a block of the call's own. -/
def CutM (w : World) (x : Int) (r : Nat) (t8 : Value) (w' : World) : Prop := ∃ b : Nat, t8 = .pointer (some ⟨b, 0, none⟩) ∧
  w'.cell? ⟨b, 0, none⟩ = some (.bool false) ∧ w'.cell? ⟨b, 1, none⟩ = some (.int .u64 (hiN r : Int)) ∧ w'.cell? ⟨b, 2, none⟩ = some (.int .u64 (loN r : Int)) ∧
  w'.cell? ⟨w.heap.size, 0, none⟩ = some (.bool (negZ x)) ∧
  w'.cell? ⟨w.heap.size + 1 + 1, 0, none⟩ = some (.bool false) ∧ w'.cell? ⟨w.heap.size + 1 + 1, 1, none⟩ = some (.int .u64 0) ∧ w'.cell? ⟨w.heap.size + 1 + 1, 2, none⟩ = some (.int .u64 0) ∧
  w'.frozen? ⟨w.heap.size + 1 + 1, 0, none⟩ = false ∧ w'.frozen? ⟨w.heap.size + 1 + 1, 1, none⟩ = false ∧ w'.frozen? ⟨w.heap.size + 1 + 1, 2, none⟩ = false ∧
  Below w.heap.size w w' ∧ w.heap.size + 1 + 1 + 1 ≤ w'.heap.size

def truncZ (x : Int) : Int := x.tdiv 1000000 * 1000000
theorem trunc_abs (x : Int) : x.natAbs - x.natAbs % 1000000 = (truncZ x).natAbs := by
  unfold truncZ; rw [Int.natAbs_mul, Int.natAbs_tdiv]; show _ = x.natAbs / 1000000 * 1000000; omega
theorem trunc_sgn {x : Int} (h : x.natAbs - x.natAbs % 1000000 ≠ 0) : negZ x = negZ (truncZ x) := by
  rw [trunc_abs] at h
  have h1 : x.tdiv 1000000 ≠ 0 := by intro e; unfold truncZ at h; rw [e] at h; simp at h
  unfold truncZ
  rw [negZ_mul (by intro e; unfold truncZ at h; rw [e] at h; simp at h), tdiv_sign h1]
  have : negZ 1000000 = false := rfl
  rw [this]; simp

end Go.Proofs.YtfecnogmjfmghaaDoor
