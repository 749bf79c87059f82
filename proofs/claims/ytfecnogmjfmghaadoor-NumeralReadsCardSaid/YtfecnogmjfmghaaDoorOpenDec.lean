/- Numbers that come in as arguments, opened and shut. -/
import Derived.Test.YtfecnogmjfmghaaDoorDecM
import Derived.Test.YtfecnogmjfmghaaDoorRows
import Derived.ProofKit
import Derived.OpenShut
import Derived.Lib.SmallJoins
namespace Go.Proofs.YtfecnogmjfmghaaDoor
set_option linter.unusedSimpArgs false
set_option linter.unusedVariables false
open Go.ChangeShapes Go.WideShapes Go.ChangeAt Go.RowKit Go.Joins

theorem own : ownKnob Tryd.prog.godebug = none := by kernel_rfl
theorem decCells : Tryd.prog.cellsOf 26 = 3 := by kernel_rfl


set_option maxRecDepth 100000 in
theorem open_dec {H : Type} {enc : TypeId × Value → H} {w : World} {base : Nat} {spare : Nat → Bool} {held : Bool} {r : Reach} {b0 : Nat} {v : Value} {d : DataW H} {p : List MemPlace}
    (hv : Value.okWide Tryd.prog w r b0 26 v) (h : DataW.Trod enc Tryd.prog w base spare held 26 v d p) :
    ∃ (n : Bool) (m : Nat), v = MV n m ∧ m < 340282366920938463463374607431768211456 ∧ p = [] ∧ ∀ (w' : World) (base' : Nat) (spare' : Nat → Bool) (held' : Bool), DataW.Trod enc Tryd.prog w' base' spare' held' 26 v d [] := by
  obtain ⟨v0, v1, v2, y0, y1, y2, k, hv0, hd, hp, h0, h1, h2⟩ := open_agg3 Tryd.underlying26 (by kernel_rfl) decCells hv h
  obtain ⟨n, e0, x0⟩ := DataW.trod_bool Tryd.underlying4 h0
  obtain ⟨a, e1, x1, wa⟩ := DataW.trod_int Tryd.underlying24 h1
  obtain ⟨b, e2, x2, wb⟩ := DataW.trod_int Tryd.underlying24 h2
  simp only [List.cons.injEq, and_true] at e0 e1 e2
  subst e0 e1 e2 x0 x1 x2
  have ba := bounds_u64 wa
  have bb := bounds_u64 wb
  obtain ⟨A, rfl⟩ := Int.eq_ofNat_of_zero_le ba.1
  obtain ⟨B, rfl⟩ := Int.eq_ofNat_of_zero_le bb.1
  have hB : B < 18446744073709551616 := by have := bb.2; omega
  refine ⟨n, A * 18446744073709551616 + B, ?_, ?_, by rw [hp]; rfl, fun w' base' spare' held' => ?_⟩
  · rw [hv0]; show Value.agg _ = Value.agg #[.bool n, .int .u64 ((hiN (A * 18446744073709551616 + B) : Nat) : Int), .int .u64 ((loN (A * 18446744073709551616 + B) : Nat) : Int)]
    rw [hiN_mk hB, loN_mk hB]
  · have hA : A < 18446744073709551616 := by have := ba.2; omega
    omega
  · rw [hv0, hd]
    exact shut_agg3 (y0 := (.lit (.bool n), [])) (y1 := (.lit (.int .u64 A), [])) (y2 := (.lit (.int .u64 B), [])) Tryd.underlying26 (by kernel_rfl) decCells ⟨1, by simp [DataW.trod, Tryd.underlying4]⟩ ⟨1, by simp [DataW.trod, Tryd.underlying24, wa]⟩ ⟨1, by simp [DataW.trod, Tryd.underlying24, wb]⟩

end Go.Proofs.YtfecnogmjfmghaaDoor
