/- The statement DecUnits: times 1, divided by 1, to the power of 1 and of 0, divided by itself. No condition. -/
import Derived.Test.YtdoahjiahdeflaaDecUnitsC
import Derived.Test.YtdoahjiahdeflaaRows
import Derived.ProofKit
import Derived.OpenShut
import Derived.Lib.SmallJoins
namespace Go.Proofs.Ytdoahjiahdeflaa
set_option linter.unusedSimpArgs false
set_option linter.unusedVariables false
open Go.ChangeShapes Go.WideShapes Go.ChangeAt Go.RowKit Go.Joins

theorem own : ownKnob Try.prog.godebug = none := by kernel_rfl
theorem decCells : Try.prog.cellsOf 24 = 3 := by kernel_rfl


set_option maxRecDepth 100000 in
theorem open_dec {H : Type} {enc : TypeId × Value → H} {w : World} {base : Nat} {spare : Nat → Bool} {held : Bool} {r : Reach} {b0 : Nat} {v : Value} {d : DataW H} {p : List MemPlace}
    (hv : Value.okWide Try.prog w r b0 24 v) (h : DataW.Trod enc Try.prog w base spare held 24 v d p) :
    ∃ (n : Bool) (m : Nat), v = MV n m ∧ p = [] ∧ ∀ (w' : World) (base' : Nat) (spare' : Nat → Bool) (held' : Bool), DataW.Trod enc Try.prog w' base' spare' held' 24 v d [] := by
  obtain ⟨v0, v1, v2, y0, y1, y2, k, hv0, hd, hp, h0, h1, h2⟩ := open_agg3 Try.underlying24 (by kernel_rfl) decCells hv h
  obtain ⟨n, e0, x0⟩ := DataW.trod_bool Try.underlying4 h0
  obtain ⟨a, e1, x1, wa⟩ := DataW.trod_int Try.underlying22 h1
  obtain ⟨b, e2, x2, wb⟩ := DataW.trod_int Try.underlying22 h2
  simp only [List.cons.injEq, and_true] at e0 e1 e2
  subst e0 e1 e2 x0 x1 x2
  have ba := bounds_u64 wa
  have bb := bounds_u64 wb
  obtain ⟨A, rfl⟩ := Int.eq_ofNat_of_zero_le ba.1
  obtain ⟨B, rfl⟩ := Int.eq_ofNat_of_zero_le bb.1
  have hB : B < 18446744073709551616 := by have := bb.2; omega
  refine ⟨n, A * 18446744073709551616 + B, ?_, by rw [hp]; rfl, fun w' base' spare' held' => ?_⟩
  · rw [hv0]; show Value.agg _ = Value.agg #[.bool n, .int .u64 ((hiN (A * 18446744073709551616 + B) : Nat) : Int), .int .u64 ((loN (A * 18446744073709551616 + B) : Nat) : Int)]
    rw [hiN_mk hB, loN_mk hB]
  · rw [hv0, hd]
    exact shut_agg3 (y0 := (.lit (.bool n), [])) (y1 := (.lit (.int .u64 A), [])) (y2 := (.lit (.int .u64 B), [])) Try.underlying24 (by kernel_rfl) decCells ⟨1, by simp [DataW.trod, Try.underlying4]⟩ ⟨1, by simp [DataW.trod, Try.underlying22, wa]⟩ ⟨1, by simp [DataW.trod, Try.underlying22, wb]⟩

set_option maxRecDepth 100000 in
theorem lifted (os : Os) (started : os.Started) (H : Type) (enc : TypeId × Value → H) :
    ReturnsInHanded {} Try.checked os 10 .any (Rows.decUnitsSpec.pre6 enc Try.prog Try.f10 Rows.decUnitsRow.domain false) (Rows.decUnitsSpec.post enc Try.prog Try.f10 false true false false) := by
  refine returnsInHanded_of_change (C := Try.checked) own started (by kernel_rfl) Try.func10
    (ChangeSpec.witness6 (enc := enc) (C := Try.checked) false ⟨#[], #[.agg #[.bool false, .int .u64 0, .int .u64 0]], []⟩ 8 (by kernel_rfl) (by kernel_rfl) (by kernel_rfl) (by kernel_rfl)) ?_
  intro W base args ds gs before hval0 hW hcnd _
  have hval : ∀ (j : Nat) t v, Try.f10.params[j]? = some t → args[j]? = some v → Value.okWide Try.prog W .any base t v := hval0
  have hW' := hW
  obtain ⟨p, q, hA0, hV, rfl, hfz, hnd⟩ := hW
  have hA : DataW.TrodAll enc Try.prog W 0 (fun _ => true) true Try.f10.params.toList args.toList ds p := hA0
  rw [Try.params10] at hA hval
  obtain ⟨v0, vs0, d0, ds0, p0, q0, hargs, rfl, rfl, h0, r0⟩ := trodAll_cons hA
  obtain ⟨rfl, rfl, rfl⟩ := trodAll_nil r0
  obtain rfl : args = #[v0] := by cases args; simp_all
  obtain ⟨rfl, rfl⟩ := trodVars_none hV
  obtain ⟨n0, m0, rfl, rfl, t0⟩ := open_dec (hval 0 24 v0 rfl rfl) h0
  clear hA0 hval0
  refine (units_w n0 m0 W).mono fun e W' ⟨he, bel⟩ => ?_
  subst he
  exact ⟨_, rfl, _, _, _, [], _, [], hW', trodAll_mk1 (shut_bool Try.underlying4 _), (trodAll_cons_mk (t0 _ _ _ _) trodAll_mk0), rfl, bel.frame _, fun h => by cases h⟩

theorem over : Rows.decUnitsRow.holds Try.pinned (OpenSpec.ofChange Rows.decUnitsSpec) :=
  OpenClaim.holds_of_wide 10 Try.f10 rfl rfl rfl rfl rfl rfl rfl ⟨rfl, rfl, rfl, rfl, rfl⟩ rfl rfl rfl rfl rfl (by kernel_rfl) Try.func10 (by kernel_rfl)
    (of_decide_eq_true (by kernel_rfl)) (by unfold Func.isWrapper; first | (rw [if_pos (by decide +kernel)]; kernel_rfl) | (rw [if_neg (by decide +kernel)]; exact ⟨rfl, rfl⟩))
    (fun os started H enc _ => lifted os started H enc)

theorem units_holds : Rows.DecUnitsSaid := over
end Go.Proofs.Ytdoahjiahdeflaa
