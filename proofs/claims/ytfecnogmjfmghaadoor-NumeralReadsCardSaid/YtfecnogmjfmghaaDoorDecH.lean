/- The contract of dec.Add on right numbers, and on others. -/
import Derived.Test.YtfecnogmjfmghaaDoorDecB
import Derived.Deep.RegionHeld3
namespace Go.Proofs.YtfecnogmjfmghaaDoor
set_option linter.unusedSimpArgs false
set_option linter.unusedVariables false
set_option linter.unnecessarySimpa false
open Go.RowKit

/-- Two numbers are exchanged in their blocks. -/
theorem swap_facts {w : World} {b : Nat} {x0 x1 x2 x3 x4 x5 : Value} (y0 y1 y2 z0 z1 z2 : Value) (h0 : w.cell? ⟨b, 0, none⟩ = some x0) (h1 : w.cell? ⟨b, 1, none⟩ = some x1) (h2 : w.cell? ⟨b, 2, none⟩ = some x2)
    (h3 : w.cell? ⟨b + 1, 0, none⟩ = some x3) (h4 : w.cell? ⟨b + 1, 1, none⟩ = some x4) (h5 : w.cell? ⟨b + 1, 2, none⟩ = some x5) (W : World)
    (hW : W = (((((w.setCell ⟨b, 0, none⟩ y0).setCell ⟨b, 1, none⟩ y1).setCell ⟨b, 2, none⟩ y2).setCell ⟨b + 1, 0, none⟩ z0).setCell ⟨b + 1, 1, none⟩ z1).setCell ⟨b + 1, 2, none⟩ z2) :
    W.cell? ⟨b, 0, none⟩ = some y0 ∧ W.cell? ⟨b, 1, none⟩ = some y1 ∧ W.cell? ⟨b, 2, none⟩ = some y2 ∧ W.cell? ⟨b + 1, 0, none⟩ = some z0 ∧ W.cell? ⟨b + 1, 1, none⟩ = some z1 ∧ W.cell? ⟨b + 1, 2, none⟩ = some z2 ∧
    (∀ a, W.frozen? a = w.frozen? a) ∧ W.heap.size = w.heap.size ∧ (∀ b' o, b' ≠ b → b' ≠ b + 1 → W.cell? ⟨b', o, none⟩ = w.cell? ⟨b', o, none⟩) ∧ ∀ B, B ≤ b → Below B w W := by
  subst hW
  have far : ∀ (b b' o o' : Nat) (v : Value) (W : World), b ≠ b' → (W.setCell ⟨b, o, none⟩ v).cell? ⟨b', o', none⟩ = W.cell? ⟨b', o', none⟩ := fun b b' o o' v W h => World.cell?_setCell_far W _ _ v h
  have t := three_set y0 y1 y2 h0 h1 h2
  have f3 : ∀ (W0 : World) (o : Nat), (((W0.setCell ⟨b + 1, 0, none⟩ z0).setCell ⟨b + 1, 1, none⟩ z1).setCell ⟨b + 1, 2, none⟩ z2).cell? ⟨b, o, none⟩ = W0.cell? ⟨b, o, none⟩ :=
    fun W0 o => (far _ _ _ _ _ _ (by omega)).trans ((far _ _ _ _ _ _ (by omega)).trans (far _ _ _ _ _ _ (by omega)))
  have g3 : ∀ (o : Nat), (((w.setCell ⟨b, 0, none⟩ y0).setCell ⟨b, 1, none⟩ y1).setCell ⟨b, 2, none⟩ y2).cell? ⟨b + 1, o, none⟩ = w.cell? ⟨b + 1, o, none⟩ :=
    fun o => (far _ _ _ _ _ _ (by omega)).trans ((far _ _ _ _ _ _ (by omega)).trans (far _ _ _ _ _ _ (by omega)))
  have t2 := three_set z0 z1 z2 ((g3 0).trans h3) ((g3 1).trans h4) ((g3 2).trans h5)
  refine ⟨(f3 _ 0).trans t.1, (f3 _ 1).trans t.2.1, (f3 _ 2).trans t.2.2, t2.1, t2.2.1, t2.2.2, fun a => by simp only [World.frozen?_setCell], by simp only [World.size_setCell], fun b' o hb hb1 => ?_, fun B hB => ?_⟩
  · rw [far _ _ _ _ _ _ (Ne.symm hb1), far _ _ _ _ _ _ (Ne.symm hb1), far _ _ _ _ _ _ (Ne.symm hb1), far _ _ _ _ _ _ (Ne.symm hb), far _ _ _ _ _ _ (Ne.symm hb), far _ _ _ _ _ _ (Ne.symm hb)]
  · exact ((((((Below.refl _ _).setCell hB _).setCell hB _).setCell hB _).setCell (Nat.le_succ_of_le hB) _).setCell (Nat.le_succ_of_le hB) _).setCell (Nat.le_succ_of_le hB) _

theorem good_z' {x : Int} (hx : x.natAbs < topN) : ∀ w, Calls Tryd.prog 15 #[ZV x] w fun e w' => e = .returned (.bool true) ∧ Below w.heap.size w w' := by
  intro w
  have h := good_m (negZ x) x.natAbs w
  rw [goodB_z, decide_eq_true hx] at h
  exact h

end Go.Proofs.YtfecnogmjfmghaaDoor
