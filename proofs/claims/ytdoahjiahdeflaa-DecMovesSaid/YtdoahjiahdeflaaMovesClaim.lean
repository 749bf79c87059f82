/- The statement DecMoves: two numbers to which the same is added stand as they stood, where nothing is too great. No condition. -/
import Derived.Test.YtdoahjiahdeflaaDecMoves
import Derived.Test.YtdoahjiahdeflaaRows
import Derived.ProofKit
import Derived.OpenShut
import Derived.Lib.SmallJoins
namespace Go.Proofs.Ytdoahjiahdeflaa
set_option linter.unusedSimpArgs false
set_option linter.unusedVariables false
open Go.ChangeShapes Go.WideShapes Go.ChangeAt Go.RowKit Go.Joins

theorem own : ownKnob Try.prog.godebug = none := by kernel_rfl
theorem decCells : Try.prog.cellsOf 24 = 3 := by kernel_rfl


set_option maxRecDepth 100000 in
theorem open_dec {H : Type} {enc : TypeId × Value → H} {w : World} {base : Nat} {spare : Nat → Bool} {held : Bool} {r : Reach} {b0 : Nat} {v : Value} {d : DataW H} {p : List MemPlace}
    (hv : Value.okWide Try.prog w r b0 24 v) (h : DataW.Trod enc Try.prog w base spare held 24 v d p) :
    ∃ (n : Bool) (m : Nat), v = MV n m ∧ p = [] ∧ ∀ (w' : World) (base' : Nat) (spare' : Nat → Bool) (held' : Bool), DataW.Trod enc Try.prog w' base' spare' held' 24 v d [] := by
  obtain ⟨v0, v1, v2, y0, y1, y2, k, hv0, hd, hp, h0, h1, h2⟩ := open_agg3 Try.underlying24 (by kernel_rfl) decCells hv h
  obtain ⟨n, e0, x0⟩ := DataW.trod_bool Try.underlying4 h0
  obtain ⟨a, e1, x1, wa⟩ := DataW.trod_int Try.underlying22 h1
  obtain ⟨b, e2, x2, wb⟩ := DataW.trod_int Try.underlying22 h2
  simp only [List.cons.injEq, and_true] at e0 e1 e2
  subst e0 e1 e2 x0 x1 x2
  have ba := bounds_u64 wa
  have bb := bounds_u64 wb
  obtain ⟨A, rfl⟩ := Int.eq_ofNat_of_zero_le ba.1
  obtain ⟨B, rfl⟩ := Int.eq_ofNat_of_zero_le bb.1
  have hB : B < 18446744073709551616 := by have := bb.2; omega
  refine ⟨n, A * 18446744073709551616 + B, ?_, by rw [hp]; rfl, fun w' base' spare' held' => ?_⟩
  · rw [hv0]; show Value.agg _ = Value.agg #[.bool n, .int .u64 ((hiN (A * 18446744073709551616 + B) : Nat) : Int), .int .u64 ((loN (A * 18446744073709551616 + B) : Nat) : Int)]
    rw [hiN_mk hB, loN_mk hB]
  · rw [hv0, hd]
    exact shut_agg3 (y0 := (.lit (.bool n), [])) (y1 := (.lit (.int .u64 A), [])) (y2 := (.lit (.int .u64 B), [])) Try.underlying24 (by kernel_rfl) decCells ⟨1, by simp [DataW.trod, Try.underlying4]⟩ ⟨1, by simp [DataW.trod, Try.underlying22, wa]⟩ ⟨1, by simp [DataW.trod, Try.underlying22, wb]⟩

set_option maxRecDepth 100000 in
theorem lifted (os : Os) (started : os.Started) (H : Type) (enc : TypeId × Value → H) :
    ReturnsInHanded {} Try.checked os 11 .any (Rows.decMovesSpec.pre6 enc Try.prog Try.f11 Rows.decMovesRow.domain false) (Rows.decMovesSpec.post enc Try.prog Try.f11 false true false false) := by
  refine returnsInHanded_of_change (C := Try.checked) own started (by kernel_rfl) Try.func11
    (ChangeSpec.witness6 (enc := enc) (C := Try.checked) false ⟨#[], #[.agg #[.bool false, .int .u64 0, .int .u64 0], .agg #[.bool false, .int .u64 0, .int .u64 0], .agg #[.bool false, .int .u64 0, .int .u64 0]], []⟩ 8 (by kernel_rfl) (by kernel_rfl) (by kernel_rfl) (by kernel_rfl)) ?_
  intro W base args ds gs before hval0 hW hcnd _
  have hval : ∀ (j : Nat) t v, Try.f11.params[j]? = some t → args[j]? = some v → Value.okWide Try.prog W .any base t v := hval0
  have hW' := hW
  obtain ⟨p, q, hA0, hV, rfl, hfz, hnd⟩ := hW
  have hA : DataW.TrodAll enc Try.prog W 0 (fun _ => true) true Try.f11.params.toList args.toList ds p := hA0
  rw [Try.params11] at hA hval
  obtain ⟨v0, vs0, d0, ds0, p0, q0, hargs, rfl, rfl, h0, r0⟩ := trodAll_cons hA
  obtain ⟨v1, vs1, d1, ds1, p1, q1, rfl, rfl, rfl, h1, r1⟩ := trodAll_cons r0
  obtain ⟨v2, vs2, d2, ds2, p2, q2, rfl, rfl, rfl, h2, r2⟩ := trodAll_cons r1
  obtain ⟨rfl, rfl, rfl⟩ := trodAll_nil r2
  obtain rfl : args = #[v0, v1, v2] := by cases args; simp_all
  obtain ⟨rfl, rfl⟩ := trodVars_none hV
  obtain ⟨n0, m0, rfl, rfl, t0⟩ := open_dec (hval 0 24 v0 rfl rfl) h0
  obtain ⟨n1, m1, rfl, rfl, t1⟩ := open_dec (hval 1 24 v1 rfl rfl) h1
  obtain ⟨n2, m2, rfl, rfl, t2⟩ := open_dec (hval 2 24 v2 rfl rfl) h2
  clear hA0 hval0
  refine (moves_w n0 n1 n2 m0 m1 m2 W).mono fun e W' ⟨he, bel⟩ => ?_
  subst he
  exact ⟨_, rfl, _, _, _, [], _, [], hW', trodAll_mk1 (shut_bool Try.underlying4 _), (trodAll_cons_mk (t0 _ _ _ _) (trodAll_cons_mk (t1 _ _ _ _) (trodAll_cons_mk (t2 _ _ _ _) trodAll_mk0))), rfl, bel.frame _, fun h => by cases h⟩

theorem over : Rows.decMovesRow.holds Try.pinned (OpenSpec.ofChange Rows.decMovesSpec) :=
  OpenClaim.holds_of_wide 11 Try.f11 rfl rfl rfl rfl rfl rfl rfl ⟨rfl, rfl, rfl, rfl, rfl⟩ rfl rfl rfl rfl rfl (by kernel_rfl) Try.func11 (by kernel_rfl)
    (of_decide_eq_true (by kernel_rfl)) (by unfold Func.isWrapper; first | (rw [if_pos (by decide +kernel)]; kernel_rfl) | (rw [if_neg (by decide +kernel)]; exact ⟨rfl, rfl⟩))
    (fun os started H enc _ => lifted os started H enc)

theorem moves_holds : Rows.DecMovesSaid := over
end Go.Proofs.Ytdoahjiahdeflaa
