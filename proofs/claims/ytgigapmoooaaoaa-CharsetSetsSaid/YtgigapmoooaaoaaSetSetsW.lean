/- The walk of CharsetSets, whole. -/
import Derived.Test.YtgigapmoooaaoaaSetSets
namespace Go.Proofs.Ytgigapmoooaaoaa
set_option linter.unusedSimpArgs false
set_option linter.unusedVariables false
set_option linter.unnecessarySimpa false
open Go.RowKit

theorem sets_w (p q : Nat → Bool) (a b c : UInt8) (w : World) (hM : HM w) :
    Calls Try.prog 4 #[setV p, setV q, bv a, bv b, bv c] w fun e w' => e = .returned (.bool true) ∧ Below w.heap.size w w' := by
  have hc := c.toNat_lt
  have N2 : ∀ W, Calls Try.prog 16 #[setV (fun x => !p x)] W fun e w' => e = .returned (setV p) ∧ Below W.heap.size W w' := by
    intro W
    have := not_u (fun x => !p x) W
    have e : (fun x => !(fun y => !p y) x) = p := by funext x; simp
    rw [e] at this
    exact this
  have HI : ∀ k : Nat, k < 256 → ∀ W, Calls Try.prog 13 #[setV p, .int .u8 (k : Int)] W fun e w' => e = .returned (.bool (p k)) ∧ Below W.heap.size W w' := by
    intro k hk W
    have := has_u p (UInt8.ofNat k) W
    have e : (UInt8.ofNat k).toNat = k := by rw [UInt8.toNat_ofNat']; omega
    unfold bv at this
    rwa [e] at this
  exact sets_core p q (rngP a.toNat b.toNat) (fun x => p x || q x) (fun x => !p x) a.toNat b.toNat c.toNat (cntP p 256) (cntP (fun x => !p x) 256) (wd p (c.toNat / 64)) (c.toNat % 64) (decide (a.toNat ≤ c.toNat)) (decide (c.toNat ≤ b.toNat)) (p c.toNat) (q c.toNat) w hM hc (cntP_le p 256) (cntP_le _ 256)
    (fun W h => awake3 W h) (fun W => range_u a b W) (fun W => or_u p q W) (fun W => not_u p W) N2 (fun W => has_u (rngP a.toNat b.toNat) c W) (fun W => has_u (fun x => p x || q x) c W) (fun W => has_u p c W) (fun W => has_u q c W) (fun W => has_u (fun x => !p x) c W)
    (fun W => count_u p W) (fun W => count_u _ W) HI (fun k => rfl) rfl (cntP_not p 256) (neq_set p p rfl) rfl rfl rfl rfl (by rw [has_bit (wd_lt _ _), wd_has])
end Go.Proofs.Ytgigapmoooaaoaa
