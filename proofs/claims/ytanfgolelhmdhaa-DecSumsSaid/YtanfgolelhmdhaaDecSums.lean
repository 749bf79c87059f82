/- The walk of the statement DecSums, all together. -/
import Derived.Test.YtanfgolelhmdhaaDecSumsA
import Derived.Test.YtanfgolelhmdhaaDecSumsB
namespace Go.Proofs.Ytanfgolelhmdhaa
set_option linter.unusedSimpArgs false
set_option linter.unusedVariables false
open Go.RowKit
theorem sums_w (n : Bool) (m : Nat) (hm : m < 340282366920938463463374607431768211456) (n' : Bool) (m' : Nat) (hm' : m' < 340282366920938463463374607431768211456) (w : World) :
    Calls Try.prog 3 #[MV n m, MV n' m'] w fun e w' => e = .returned (.bool true) ∧ Below w.heap.size w w' := by
  cases h : goodB n m
  · cases h' : goodB n' m'
    · exact sums_bad1 n n' m m' hm hm' h h' w
    · exact sums_bad2 n n' m m' hm hm' h h' w
  · cases h' : goodB n' m'
    · exact sums_bad3 n n' m m' hm hm' h h' w
    · obtain ⟨x, hx, rfl, rfl⟩ := good_z h
      obtain ⟨y, hy, rfl, rfl⟩ := good_z h'
      exact sums_ok x y hx hy w
end Go.Proofs.Ytanfgolelhmdhaa
