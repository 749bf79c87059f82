/- The walk of CharsetLaws, whole. -/
import Derived.Test.YtgigapmoooaaoaaSetLawsTT
import Derived.Test.YtgigapmoooaaoaaSetLawsTF
import Derived.Test.YtgigapmoooaaoaaSetLawsFF
namespace Go.Proofs.Ytgigapmoooaaoaa
set_option linter.unusedSimpArgs false
set_option linter.unusedVariables false
set_option linter.unnecessarySimpa false
open Go.RowKit

theorem laws3_w (p q : Nat → Bool) (c : UInt8) (w : World) (hM : HM w) :
    Calls Try.prog 7 #[setV p, setV q, bv c] w fun e w' => e = .returned (.bool true) ∧ Below w.heap.size w w' := by
  have e1 : setA (fun x => p x || !p x) = setA (rngP 0 255) := setA_ext fun x hx => by
    unfold rngP
    rw [decide_eq_true (Nat.zero_le x), decide_eq_true (by omega : x ≤ 255)]; cases p x <;> rfl
  have e2 : setA (fun x => p x || p x) = setA p := setA_ext fun x _ => by cases p x <;> rfl
  have e3 : setA (fun x => p x || q x) = setA (fun x => q x || p x) := setA_ext fun x _ => by cases p x <;> cases q x <;> rfl
  have hc := cntP_two p q 256
  have hb : cntP (fun x => !(!p x || !q x)) 256 = cntP (fun x => p x && q x) 256 := cntP_ext fun x _ => by cases p x <;> cases q x <;> rfl
  have l1 := cntP_le p 256
  have l2 := cntP_le q 256
  have w1 : IntKind.i64.wrap (((cntP (fun x => !(!p x || !q x)) 256 : Nat) : Int) + ((cntP (fun x => p x || q x) 256 : Nat) : Int)) = ((cntP p 256 + cntP q 256 : Nat) : Int) := by
    rw [IntKind.wrap_i64, hb]; omega
  have w2 : IntKind.i64.wrap (((cntP p 256 : Nat) : Int) + ((cntP q 256 : Nat) : Int)) = ((cntP p 256 + cntP q 256 : Nat) : Int) := by
    rw [IntKind.wrap_i64]; omega
  have H1 := fun W => has_u (fun x => !(!p x || !q x)) c W
  have H2 := fun W => has_u p c W
  have H3 := fun W => has_u q c W
  cases hp : p c.toNat
  · simp only [hp, Bool.not_false, Bool.true_or, Bool.not_true] at H1 H2
    exact laws_ff p q _ _ _ _ _ _ _ _ _ c.toNat _ _ _ _ _ w hM (fun W h => awake3 W h) (fun W => not_u p W) (fun W => not_u q W) (fun W => or_u _ _ W) (fun W => not_u _ W) H1 H2 (fun W => or_u _ _ W) (fun W => range_u 0 255 W) (fun W => or_u p p W) (fun W => or_u p q W) (fun W => or_u q p W) (fun W => count_u _ W) (fun W => count_u _ W) (fun W => count_u _ W) (fun W => count_u _ W) (eql_set _ _ e1) (eql_set _ _ e2) (eql_set _ _ e3) w1 w2
  · cases hq : q c.toNat
    · simp only [hp, hq, Bool.not_false, Bool.true_or, Bool.or_true, Bool.not_true, Bool.false_or] at H1 H2 H3
      exact laws_tf p q _ _ _ _ _ _ _ _ _ c.toNat _ _ _ _ _ w hM (fun W h => awake3 W h) (fun W => not_u p W) (fun W => not_u q W) (fun W => or_u _ _ W) (fun W => not_u _ W) H1 H2 H3 (fun W => or_u _ _ W) (fun W => range_u 0 255 W) (fun W => or_u p p W) (fun W => or_u p q W) (fun W => or_u q p W) (fun W => count_u _ W) (fun W => count_u _ W) (fun W => count_u _ W) (fun W => count_u _ W) (eql_set _ _ e1) (eql_set _ _ e2) (eql_set _ _ e3) w1 w2
    · simp only [hp, hq, Bool.not_false, Bool.true_or, Bool.or_true, Bool.not_true, Bool.false_or, Bool.or_false] at H1 H2 H3
      exact laws_tt p q _ _ _ _ _ _ _ _ _ c.toNat _ _ _ _ _ w hM (fun W h => awake3 W h) (fun W => not_u p W) (fun W => not_u q W) (fun W => or_u _ _ W) (fun W => not_u _ W) H1 H2 H3 (fun W => or_u _ _ W) (fun W => range_u 0 255 W) (fun W => or_u p p W) (fun W => or_u p q W) (fun W => or_u q p W) (fun W => count_u _ W) (fun W => count_u _ W) (fun W => count_u _ W) (fun W => count_u _ W) (eql_set _ _ e1) (eql_set _ _ e2) (eql_set _ _ e3) w1 w2
end Go.Proofs.Ytgigapmoooaaoaa
