/- The walk of the statement DecTruncs, all together. -/
import Derived.Test.YtanfgolelhmdhaaDecTruncsP
import Derived.Test.YtanfgolelhmdhaaDecTruncsZ
import Derived.Test.YtanfgolelhmdhaaDecTruncsN
namespace Go.Proofs.Ytanfgolelhmdhaa
set_option linter.unusedSimpArgs false
set_option linter.unusedVariables false
set_option linter.unnecessarySimpa false
open Go.RowKit

theorem truncs_w (n : Bool) (m : Nat) (w : World) :
    Calls Try.prog 9 #[MV n m] w fun e w' => e = .returned (.bool true) ∧ Below w.heap.size w w' := by
  cases h : goodB n m
  · exact truncs_bad n m h w
  · obtain ⟨x, hx, rfl, rfl⟩ := good_z h
    by_cases h0 : x.tmod 1000000 = 0
    · exact truncs_zero x hx h0 w
    · by_cases h1 : x.tmod 1000000 < 0
      · exact truncs_neg x hx h1 w
      · exact truncs_pos x hx (by omega) w
end Go.Proofs.Ytanfgolelhmdhaa
