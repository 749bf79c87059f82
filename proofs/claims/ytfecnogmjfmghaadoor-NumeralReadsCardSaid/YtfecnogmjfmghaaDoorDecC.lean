/- The contracts of dec.addProduct, dec.product: what each returns; the world below the call's own blocks stays as it was. -/
import Derived.Test.YtfecnogmjfmghaaDoorDecA
import Derived.Test.YtfecnogmjfmghaaDoorDecN
import Derived.Test.YtfecnogmjfmghaaDoorShelf
import Derived.LoopN
namespace Go.Proofs.YtfecnogmjfmghaaDoor
set_option linter.unusedSimpArgs false
set_option linter.unusedVariables false
set_option linter.unnecessarySimpa false
open Go.RowKit

theorem mul64 (x y : Nat) (hx : x < 18446744073709551616) (hy : y < 18446744073709551616) (w : World) :
    Calls Tryd.prog 40 #[.int .u64 (x : Int), .int .u64 (y : Int)] w fun e w' => e = .returned (.tuple #[.int .u64 (mulH x y : Nat), .int .u64 (mulL x y : Nat)]) ∧ w = w' := by
  refine (Tryd.bits_Mul64 x y hx hy w).mono ?_
  rintro e w' ⟨rfl, rfl⟩
  exact ⟨rfl, rfl⟩

end Go.Proofs.YtfecnogmjfmghaaDoor
