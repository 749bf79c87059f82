/- The document's own Bracket: how it ends. -/
import Derived.Test.YtfmekmbdienbjaaDoorSetRA
import Derived.Test.YtfmekmbdienbjaaDoorSetRB
import Derived.Test.YtfmekmbdienbjaaDoorSetM
namespace Go.Proofs.YtfmekmbdienbjaaDoor
set_option linter.unusedSimpArgs false
set_option linter.unusedVariables false
set_option linter.unnecessarySimpa false
open Go.RowKit

theorem sZ_info : (Tryd.prog.info? 32).map (·.size) = some 256 := by kernel_rfl
/-- The cells of an answer that tells a set. -/
noncomputable def baseG (p : Nat → Bool) : Array Value := bolA p ++ #[.int .i64 0, .int .i64 0, .int .i64 0]
noncomputable def goodG (p : Nat → Bool) (x : Int) : List Value := (baseG p).toList.set 256 (.int .i64 x)
theorem fold_good (p : Nat → Bool) : Array.foldl (fun (cs : Array Value) (x : Value × Nat) => cs.setIfInBounds x.snd x.fst) gZ (bolA p).zipIdx 0 (bolA p).size = baseG p := by kernel_rfl
theorem baseG_size (p : Nat → Bool) : (baseG p).size = 259 := by simp [baseG, bolA_size]
theorem goodG_len (p : Nat → Bool) (x : Int) : (goodG p x).length = 259 := by unfold goodG; rw [List.length_set, Array.length_toList, baseG_size]
theorem goodG_one (p : Nat → Bool) (x : Int) : ∀ v ∈ goodG p x, v.oneCell' = true := by
  refine set_one (fun v hv => ?_) _ _ rfl
  simp only [baseG, Array.toList_append, List.mem_append] at hv
  rcases hv with hv | hv
  · unfold bolA at hv
    simp at hv
    obtain ⟨i, _, rfl⟩ := hv
    rfl
  · simp at hv
    rcases hv with rfl | rfl <;> rfl
theorem badG_len (c a : Int) : (badG c a).length = 259 := by unfold badG; rw [List.length_set, List.length_set]; exact gZ_size
theorem badG_one (c a : Int) : ∀ v ∈ badG c a, v.oneCell' = true := set_one (set_one gZ_ones _ _ rfl) _ _ rfl
/-- How the document's Bracket ends. -/
def EndG (o : Bool) (k : Nat) (R : MR) (w : World) (e : Ending) (w' : World) : Prop :=
  match R with
  | .ok p n => e = .returned (.agg (goodG (turnP o p) ((n : Int) + 1 - (k : Int))).toArray) ∧ Below w.heap.size w w'
  | .bad a c => e = .returned (.agg (badG (c : Int) (a : Int)).toArray) ∧ Below w.heap.size w w'
theorem sZ_eq : Tryd.zeroCells32 = bolA nonP := by kernel_rfl
end Go.Proofs.YtfmekmbdienbjaaDoor
