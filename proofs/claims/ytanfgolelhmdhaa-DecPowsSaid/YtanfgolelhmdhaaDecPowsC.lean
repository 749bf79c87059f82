/- The walk of the statement DecPows, all together. -/
import Derived.Test.YtanfgolelhmdhaaDecPows
import Derived.Test.YtanfgolelhmdhaaDecPowsB
namespace Go.Proofs.Ytanfgolelhmdhaa
set_option linter.unusedSimpArgs false
set_option linter.unusedVariables false
set_option linter.unnecessarySimpa false
open Go.RowKit
theorem pows_w (n : Bool) (m : Nat) (hm : m < 340282366920938463463374607431768211456) (n' : Bool) (m' : Nat) (hm' : m' < 340282366920938463463374607431768211456) (w : World) :
    Calls Try.prog 5 #[MV n m, MV n' m'] w fun e w' => e = .returned (.bool true) ∧ Below w.heap.size w w' := by
  cases h : goodB n m
  · exact pows_bad1 n n' m m' hm hm' h w
  · cases h' : goodB n' m'
    · exact pows_bad2 n n' m m' hm hm' h h' w
    · obtain ⟨x, hx, rfl, rfl⟩ := good_z h
      obtain ⟨y, hy, rfl, rfl⟩ := good_z h'
      exact pows_ok x y hx hy w
end Go.Proofs.Ytanfgolelhmdhaa
