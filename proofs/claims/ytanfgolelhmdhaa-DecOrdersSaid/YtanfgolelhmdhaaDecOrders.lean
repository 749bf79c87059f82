/- The walk of the statement DecOrders, all together. -/
import Derived.Test.YtanfgolelhmdhaaDecOrdersB
import Derived.Test.YtanfgolelhmdhaaDecOrdersC
namespace Go.Proofs.Ytanfgolelhmdhaa
set_option linter.unusedSimpArgs false
set_option linter.unusedVariables false
set_option linter.unnecessarySimpa false
open Go.RowKit

theorem orders_w (n : Bool) (m : Nat) (n' : Bool) (m' : Nat) (w : World) :
    Calls Try.prog 7 #[MV n m, MV n' m'] w fun e w' => e = .returned (.bool true) ∧ Below w.heap.size w w' := by
  cases h : goodB n m
  · exact orders_bad1 n n' m m' h w
  · cases h' : goodB n' m'
    · exact orders_bad2 n n' m m' h h' w
    · obtain ⟨x, hx, rfl, rfl⟩ := good_z h
      obtain ⟨y, hy, rfl, rfl⟩ := good_z h'
      by_cases h0 : y = 0
      · exact orders_zero x y hx hy h0 w
      · exact orders_ok x y hx hy h0 w
end Go.Proofs.Ytanfgolelhmdhaa
