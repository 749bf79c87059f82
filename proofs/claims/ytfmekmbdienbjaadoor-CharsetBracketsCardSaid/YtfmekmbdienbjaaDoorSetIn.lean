/- The document's own In, whole: the class of a name at a byte. -/
import Derived.Test.YtfmekmbdienbjaaDoorSetH
import Derived.Test.YtfmekmbdienbjaaDoorSetIn1
import Derived.Test.YtfmekmbdienbjaaDoorSetIn2
import Derived.Test.YtfmekmbdienbjaaDoorSetIn3
import Derived.Test.YtfmekmbdienbjaaDoorSetIn4
namespace Go.Proofs.YtfmekmbdienbjaaDoor
set_option linter.unusedSimpArgs false
set_option linter.unusedVariables false
set_option linter.unnecessarySimpa false
open Go.RowKit
theorem in_u (l : List UInt8) (c : Nat) (hc : c < 256) (w : World) :
    Calls Tryd.prog 28 #[.string (S8 l), .int .i64 (c : Int)] w fun e w' => e = .returned (.tuple #[.bool ((clsL l).getD nonP c), .bool (clsL l).isSome]) ∧ w = w' := by
  by_cases h0 : l = [97, 108, 110, 117, 109]
  · have e : clsL l = some ((fun x => ((fun x => (rngP 48 57) x || (rngP 97 122) x)) x || (rngP 65 90) x)) := by unfold clsL; rw [if_pos h0]
    rw [e]; exact in_alnum c hc (S8 l) (by rw [S8_list, h0]) w
  by_cases h1 : l = [97, 108, 112, 104, 97]
  · have e : clsL l = some ((fun x => ((fun x => (nonP) x || (rngP 97 122) x)) x || (rngP 65 90) x)) := by unfold clsL; rw [if_neg h0, if_pos h1]
    rw [e]; exact in_alpha c hc (S8 l) (by rw [S8_list, h1]) w
  by_cases h2 : l = [117, 112, 112, 101, 114]
  · have e : clsL l = some ((fun x => (nonP) x || (rngP 65 90) x)) := by unfold clsL; rw [if_neg h0, if_neg h1, if_pos h2]
    rw [e]; exact in_upper c hc (S8 l) (by rw [S8_list, h2]) w
  by_cases h3 : l = [108, 111, 119, 101, 114]
  · have e : clsL l = some (rngP 97 122) := by unfold clsL; rw [if_neg h0, if_neg h1, if_neg h2, if_pos h3]
    rw [e]; exact in_lower c hc (S8 l) (by rw [S8_list, h3]) w
  by_cases h4 : l = [120, 100, 105, 103, 105, 116]
  · have e : clsL l = some ((fun x => (rgsF nonP [65, 70, 97, 102]) x || (rngP 48 57) x)) := by unfold clsL; rw [if_neg h0, if_neg h1, if_neg h2, if_neg h3, if_pos h4]
    rw [e]; exact in_xdigit c hc (S8 l) (by rw [S8_list, h4]) w
  by_cases h5 : l = [100, 105, 103, 105, 116]
  · have e : clsL l = some ((fun x => (nonP) x || (rngP 48 57) x)) := by unfold clsL; rw [if_neg h0, if_neg h1, if_neg h2, if_neg h3, if_neg h4, if_pos h5]
    rw [e]; exact in_digit c hc (S8 l) (by rw [S8_list, h5]) w
  by_cases h6 : l = [115, 112, 97, 99, 101]
  · have e : clsL l = some ((fun x => (rngP 10 13) x || (rgsF nonP [9, 9, 32, 32]) x)) := by unfold clsL; rw [if_neg h0, if_neg h1, if_neg h2, if_neg h3, if_neg h4, if_neg h5, if_pos h6]
    rw [e]; exact in_space c hc (S8 l) (by rw [S8_list, h6]) w
  by_cases h7 : l = [98, 108, 97, 110, 107]
  · have e : clsL l = some ((fun x => (nonP) x || (rgsF nonP [9, 9, 32, 32]) x)) := by unfold clsL; rw [if_neg h0, if_neg h1, if_neg h2, if_neg h3, if_neg h4, if_neg h5, if_neg h6, if_pos h7]
    rw [e]; exact in_blank c hc (S8 l) (by rw [S8_list, h7]) w
  by_cases h8 : l = [112, 114, 105, 110, 116]
  · have e : clsL l = some ((fun x => (rngP 32 32) x || (rngP 33 126) x)) := by unfold clsL; rw [if_neg h0, if_neg h1, if_neg h2, if_neg h3, if_neg h4, if_neg h5, if_neg h6, if_neg h7, if_pos h8]
    rw [e]; exact in_print c hc (S8 l) (by rw [S8_list, h8]) w
  by_cases h9 : l = [103, 114, 97, 112, 104]
  · have e : clsL l = some ((fun x => (nonP) x || (rngP 33 126) x)) := by unfold clsL; rw [if_neg h0, if_neg h1, if_neg h2, if_neg h3, if_neg h4, if_neg h5, if_neg h6, if_neg h7, if_neg h8, if_pos h9]
    rw [e]; exact in_graph c hc (S8 l) (by rw [S8_list, h9]) w
  by_cases h10 : l = [112, 117, 110, 99, 116]
  · have e : clsL l = some (rgsF nonP [33, 47, 58, 64, 91, 96, 123, 126]) := by unfold clsL; rw [if_neg h0, if_neg h1, if_neg h2, if_neg h3, if_neg h4, if_neg h5, if_neg h6, if_neg h7, if_neg h8, if_neg h9, if_pos h10]
    rw [e]; exact in_punct c hc (S8 l) (by rw [S8_list, h10]) w
  by_cases h11 : l = [99, 110, 116, 114, 108]
  · have e : clsL l = some (rgsF nonP [0, 31, 127, 127]) := by unfold clsL; rw [if_neg h0, if_neg h1, if_neg h2, if_neg h3, if_neg h4, if_neg h5, if_neg h6, if_neg h7, if_neg h8, if_neg h9, if_neg h10, if_pos h11]
    rw [e]; exact in_cntrl c hc (S8 l) (by rw [S8_list, h11]) w
  have e : clsL l = none := by unfold clsL; rw [if_neg h0, if_neg h1, if_neg h2, if_neg h3, if_neg h4, if_neg h5, if_neg h6, if_neg h7, if_neg h8, if_neg h9, if_neg h10, if_neg h11]
  rw [e]
  refine in_none c hc (S8 l) (fun N hN => ?_) w
  rw [S8_list]
  simp only [List.mem_cons, List.not_mem_nil, or_false] at hN
  rcases hN with rfl | rfl | rfl | rfl | rfl | rfl | rfl | rfl | rfl | rfl | rfl | rfl
  all_goals assumption
end Go.Proofs.YtfmekmbdienbjaaDoor
