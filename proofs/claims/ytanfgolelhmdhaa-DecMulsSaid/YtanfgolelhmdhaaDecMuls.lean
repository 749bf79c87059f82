/- The walk of the statement DecMuls, all together. -/
import Derived.Test.YtanfgolelhmdhaaDecMulsA
import Derived.Test.YtanfgolelhmdhaaDecMulsB
namespace Go.Proofs.Ytanfgolelhmdhaa
set_option linter.unusedSimpArgs false
set_option linter.unusedVariables false
set_option linter.unnecessarySimpa false
open Go.RowKit
theorem top_len3 {x : Int} (h : x.natAbs < topN) : (dig x.natAbs).length ≤ 300 := Nat.le_trans (dig_len_le (k := 36) (by rw [topN_eq] at h; omega)) (by omega)
theorem muls_ok (x y : Int) (hx : x.natAbs < topN) (hy : y.natAbs < topN) (w : World) :
    Calls Try.prog 4 #[ZV x, ZV y] w fun e w' => e = .returned (.bool true) ∧ Below w.heap.size w w' := by
  by_cases h0 : y = 0
  · subst h0
    exact muls_core x 0 (fitZ ((x * 0).tdiv 1000000)) 0 0 (fitC ((x * 0).tdiv 1000000).natAbs) 3 3 hx hy
      (mul_z x 0 hx hy) (div_0 x hx) (mod_0 x hx)
      (fun W v v' h h' => rmul_z h h' (top_len3 hx) (top_len3 hy)) (fun W v v' h h' => rdiv_0 h h') (fun W v v' h h' => rmod_0 h h')
      (fun W v h => lheld_fit _ h) (fun W v h => lheld_err h (by decide) (by decide)) (fun W v h => lheld_err h (by decide) (by decide)) w
  · have hmod : (x.tmod y).natAbs < topN := by
      rw [Int.natAbs_tmod]
      exact Nat.lt_of_le_of_lt (Nat.mod_le _ _) hx
    exact muls_core x y (fitZ ((x * y).tdiv 1000000)) (fitZ ((x * 1000000).tdiv y)) (x.tmod y) (fitC ((x * y).tdiv 1000000).natAbs) (fitC ((x * 1000000).tdiv y).natAbs) 0 hx hy
      (mul_z x y hx hy) (div_z x y hx hy h0) (mod_z x y hx hy h0)
      (fun W v v' h h' => rmul_z h h' (top_len3 hx) (top_len3 hy)) (fun W v v' h h' => rdiv_z h h' (top_len3 hx) (top_len3 hy) h0) (fun W v v' h h' => rmod_z h h' (top_len3 hx) (top_len3 hy) h0)
      (fun W v h => lheld_fit _ h) (fun W v h => lheld_fit _ h) (fun W v h => lheld_ok h hmod) w
theorem muls_w (n : Bool) (m : Nat) (hm : m < 340282366920938463463374607431768211456) (n' : Bool) (m' : Nat) (hm' : m' < 340282366920938463463374607431768211456) (w : World) :
    Calls Try.prog 4 #[MV n m, MV n' m'] w fun e w' => e = .returned (.bool true) ∧ Below w.heap.size w w' := by
  cases h : goodB n m
  · exact muls_bad1 n n' m m' hm hm' h w
  · cases h' : goodB n' m'
    · exact muls_bad2 n n' m m' hm hm' h h' w
    · obtain ⟨x, hx, rfl, rfl⟩ := good_z h
      obtain ⟨y, hy, rfl, rfl⟩ := good_z h'
      exact muls_ok x y hx hy w
end Go.Proofs.Ytanfgolelhmdhaa
