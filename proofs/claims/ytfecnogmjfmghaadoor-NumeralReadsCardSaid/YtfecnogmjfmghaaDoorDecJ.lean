/- The contracts of dec.Div, dec.Mod on right numbers, and on others. -/
import Derived.Test.YtfecnogmjfmghaaDoorDecI
import Derived.Deep.Cut
namespace Go.Proofs.YtfecnogmjfmghaaDoor
set_option linter.unusedSimpArgs false
set_option linter.unusedVariables false
set_option linter.unnecessarySimpa false
open Go.RowKit

/-- Behind the long division: its quotient lies in a block of the call's own. -/
def CutD (w : World) (x y : Int) (q : Nat) (t7 : Value) (w' : World) : Prop := ∃ b : Nat, t7 = .pointer (some ⟨b, 0, none⟩) ∧
  w'.cell? ⟨b, 0, none⟩ = some (.int .u64 (l0 q : Int)) ∧ w'.cell? ⟨b, 1, none⟩ = some (.int .u64 (l1 q : Int)) ∧ w'.cell? ⟨b, 2, none⟩ = some (.int .u64 (l2 q : Int)) ∧ w'.cell? ⟨b, 3, none⟩ = some (.int .u64 (l3 q : Int)) ∧
  w'.cell? ⟨w.heap.size, 0, none⟩ = some (.bool (negZ x)) ∧ w'.cell? ⟨w.heap.size + 1, 0, none⟩ = some (.bool (negZ y)) ∧
  w'.cell? ⟨w.heap.size + 1 + 1, 0, none⟩ = some (.bool false) ∧ w'.cell? ⟨w.heap.size + 1 + 1, 1, none⟩ = some (.int .u64 0) ∧ w'.cell? ⟨w.heap.size + 1 + 1, 2, none⟩ = some (.int .u64 0) ∧
  w'.frozen? ⟨w.heap.size + 1 + 1, 0, none⟩ = false ∧ w'.frozen? ⟨w.heap.size + 1 + 1, 1, none⟩ = false ∧ w'.frozen? ⟨w.heap.size + 1 + 1, 2, none⟩ = false ∧
  Below w.heap.size w w' ∧ w.heap.size + 1 + 1 + 1 ≤ w'.heap.size

end Go.Proofs.YtfecnogmjfmghaaDoor
