/-
  NARROWER THAN 'FOR EVERY INPUT', by the rows' own cells (each row's printed sentence says how): CharsetBrackets: laid · EreReads: laid · EreTimes: laid.
  DERIVED. THE GIVEN ROWS OF THIS SEAT. 3 by the template 'for every input the law returns true; each argument reads behind the call as it read before'; 0 by the template 'total and deterministic' (their statements: YtfmekmbdienbjaaDoorTotals.lean).
  GIVEN WITH THE SEED: the statements are not yours to turn. If you find one false, say at which input.
  Laid BY PROGRAM, IN A SANDBOX (cutbox-rows.mjs): the forced cells as the released guide's own fill.sh prints them over the translation a42852df269a4282… (all of the seat's roots in one cut). By AI agents, Wed Nov 11 2026. No macro, syntax, notation, axiom, sorry.
-/
import Derived.Test.YtfmekmbdienbjaaDoorChecked
import GoSem.Claim
import GoSem.ClaimJoined
import GoSem.ClaimMapViews
import Derived.JoinedTies
import Derived.KernelRfl
namespace Go.Proofs.YtfmekmbdienbjaaDoor
/- THE CELL 'sum', in the pinned program and in every row, IS THE sha256 OF THE DUMP (.gsa) THAT YtfmekmbdienbjaaDoorProg.lean LOADS. Nothing in Lean hashes anything: it is a label: what it is worth is what the hold of that sum in a sandbox is worth. -/
noncomputable def Tryd.pinned : Pinned := { name := "ytfmekmbdienbjaadoor", sum := "a42852df269a4282da072a196083451a3b84ad3b01767caf0848e7a7b57ea853", checked := Tryd.checked }
namespace Rows
def none {H : Type} : Left H := { results := [], args := [] }

/- WHAT THE LISTED PACKAGE-LEVEL VARIABLES READ AS WHEN THE CALL BEGINS. Each datum BY PROGRAM (the guide's laid-datum.mjs) off the statement by which the dump's own 'gosem.cut.vars' lays the variable. In a bare row this is a premise. The card (YtfmekmbdienbjaaDoorCards.lean) ties it to the program's text. -/
def laid_errors_errorType {H : Type} : DataW H := .iface "internal/reflectlite.rtype" (.agg [.ptr (.lit (.string [101, 114, 114, 111, 114]))])

/-- 'fieldfarelaw03.CharsetBrackets': WHATEVER THE INPUT: true; the input reads as it did. -/
def charsetBracketsSpec : ChangeSpec := { name := "charsetBrackets", fn := fun _ => fun
  | [d1, d2] => { results := [.lit (.bool true)], args := [d1, d2] }
  | _ => none }
def charsetBracketsRow : OpenClaim := { program := "ytfmekmbdienbjaadoor", sum := "a42852df269a4282da072a196083451a3b84ad3b01767caf0848e7a7b57ea853", func := "fieldfare/fieldfarelaw03.CharsetBrackets", spec := "charsetBrackets", inPlace := ["internal/bytealg.IndexByte", "internal/bytealg.Index", "internal/reflectlite.TypeOf", "internal/reflectlite.ValueOf", "(internal/reflectlite.Value).Type", "(internal/reflectlite.Value).IsNil", "(internal/reflectlite.Value).Elem", "(internal/reflectlite.Value).Set"], unfollowed := true, recurses := true, named := ["internal/bytealg.MaxLen", "errors.errorType"], plainKeys := false, apart := false, laid := [("errors.errorType", laid_errors_errorType)] }
def CharsetBracketsSaid : Prop := charsetBracketsRow.holds Tryd.pinned (OpenSpec.ofChange charsetBracketsSpec)

/-- ITS FALSE NEIGHBOUR: 'it returns false'. Refute it at one input. -/
def charsetBracketsWrong : ChangeSpec := { name := "charsetBrackets", fn := fun _ => fun
  | [d1, d2] => { results := [.lit (.bool false)], args := [d1, d2] }
  | _ => none }
def CharsetBracketsWrongFalsely : Prop := charsetBracketsRow.holds Tryd.pinned (OpenSpec.ofChange charsetBracketsWrong)

/-- 'fieldfarelaw04.EreReads': WHATEVER THE INPUT: true; the input reads as it did. -/
def ereReadsSpec : ChangeSpec := { name := "ereReads", fn := fun _ => fun
  | [d] => { results := [.lit (.bool true)], args := [d] }
  | _ => none }
def ereReadsRow : OpenClaim := { program := "ytfmekmbdienbjaadoor", sum := "a42852df269a4282da072a196083451a3b84ad3b01767caf0848e7a7b57ea853", func := "fieldfare/fieldfarelaw04.EreReads", spec := "ereReads", inPlace := ["internal/bytealg.IndexByte", "internal/bytealg.Index", "internal/reflectlite.TypeOf", "internal/reflectlite.ValueOf", "(internal/reflectlite.Value).Type", "(internal/reflectlite.Value).IsNil", "(internal/reflectlite.Value).Elem", "(internal/reflectlite.Value).Set"], unfollowed := true, recurses := true, named := ["internal/bytealg.MaxLen", "errors.errorType"], plainKeys := false, apart := false, laid := [("errors.errorType", laid_errors_errorType)] }
def EreReadsSaid : Prop := ereReadsRow.holds Tryd.pinned (OpenSpec.ofChange ereReadsSpec)

/-- ITS FALSE NEIGHBOUR: 'it returns false'. Refute it at one input. -/
def ereReadsWrong : ChangeSpec := { name := "ereReads", fn := fun _ => fun
  | [d] => { results := [.lit (.bool false)], args := [d] }
  | _ => none }
def EreReadsWrongFalsely : Prop := ereReadsRow.holds Tryd.pinned (OpenSpec.ofChange ereReadsWrong)

/-- 'fieldfarelaw04.EreTimes': WHATEVER THE INPUT: true; the input reads as it did. -/
def ereTimesSpec : ChangeSpec := { name := "ereTimes", fn := fun _ => fun
  | [d1, d2, d3] => { results := [.lit (.bool true)], args := [d1, d2, d3] }
  | _ => none }
def ereTimesRow : OpenClaim := { program := "ytfmekmbdienbjaadoor", sum := "a42852df269a4282da072a196083451a3b84ad3b01767caf0848e7a7b57ea853", func := "fieldfare/fieldfarelaw04.EreTimes", spec := "ereTimes", inPlace := ["internal/bytealg.IndexByte", "internal/bytealg.Index", "internal/reflectlite.TypeOf", "internal/reflectlite.ValueOf", "(internal/reflectlite.Value).Type", "(internal/reflectlite.Value).IsNil", "(internal/reflectlite.Value).Elem", "(internal/reflectlite.Value).Set"], unfollowed := true, recurses := true, named := ["internal/bytealg.MaxLen", "errors.errorType"], plainKeys := false, apart := false, laid := [("errors.errorType", laid_errors_errorType)] }
def EreTimesSaid : Prop := ereTimesRow.holds Tryd.pinned (OpenSpec.ofChange ereTimesSpec)

/-- ITS FALSE NEIGHBOUR: 'it returns false'. Refute it at one input. -/
def ereTimesWrong : ChangeSpec := { name := "ereTimes", fn := fun _ => fun
  | [d1, d2, d3] => { results := [.lit (.bool false)], args := [d1, d2, d3] }
  | _ => none }
def EreTimesWrongFalsely : Prop := ereTimesRow.holds Tryd.pinned (OpenSpec.ofChange ereTimesWrong)

/- THE SECOND FORM. 'bulk': how many values and letters a reading holds, each counted each time it is reached (what is shared counts as often as it is met; a slice's spare places count too). A statement '..UptoSaid' is the law's where the arguments, and the package variables that the reading takes, are together of bulk at most 1048576: NARROWER than '..Said'. Prove '..Said' where nothing that the law and all that it calls make is longer than what came in: it says more and counts as full. Else prove '..UptoSaid'. A law counts once. -/
mutual
def uptoBulk {H : Type} : DataW H → Nat
  | .lit (.string bytes) => bytes.length + 1
  | .lit _ => 1
  | .nil => 1
  | .ptr d => uptoBulk d + 1
  | .slice elems spare => uptoBulkAll elems + uptoBulkAll spare + 1
  | .agg parts => uptoBulkAll parts + 1
  | .iface _ d => uptoBulk d + 1
  | .map entries => uptoBulkEntries entries + 1
  | .held _ => 1
def uptoBulkAll {H : Type} : List (DataW H) → Nat
  | [] => 0
  | d :: r => uptoBulk d + uptoBulkAll r
def uptoBulkEntries {H : Type} : List (Lit × DataW H) → Nat
  | [] => 0
  | x :: r => uptoBulkEntry x + uptoBulkEntries r
def uptoBulkEntry {H : Type} : Lit × DataW H → Nat
  | (.string bytes, d) => bytes.length + uptoBulk d + 1
  | (_, d) => uptoBulk d + 1
 end
def uptoSmall : (H : Type) → List (DataW H) → Bool := fun _ ds => decide (uptoBulkAll ds ≤ 1048576)
def OpenSpec.upto (s : _root_.Go.ChangeSpec) : _root_.Go.OpenSpec := { _root_.Go.OpenSpec.ofChange s with cond := some uptoSmall }

/-- 'fieldfarelaw03.CharsetBrackets', WHERE WHAT IT READS IS OF BULK AT MOST 1048576: true; the input reads as it did. -/
def charsetBracketsUptoRow : OpenClaim := { program := "ytfmekmbdienbjaadoor", sum := "a42852df269a4282da072a196083451a3b84ad3b01767caf0848e7a7b57ea853", func := "fieldfare/fieldfarelaw03.CharsetBrackets", spec := "charsetBrackets", inPlace := ["internal/bytealg.IndexByte", "internal/bytealg.Index", "internal/reflectlite.TypeOf", "internal/reflectlite.ValueOf", "(internal/reflectlite.Value).Type", "(internal/reflectlite.Value).IsNil", "(internal/reflectlite.Value).Elem", "(internal/reflectlite.Value).Set"], unfollowed := true, recurses := true, named := ["internal/bytealg.MaxLen", "errors.errorType"], plainKeys := false, apart := false, laid := [("errors.errorType", laid_errors_errorType)], narrowed := true }
def CharsetBracketsUptoSaid : Prop := charsetBracketsUptoRow.holds Tryd.pinned (OpenSpec.upto charsetBracketsSpec)

/-- 'fieldfarelaw04.EreReads', WHERE WHAT IT READS IS OF BULK AT MOST 1048576: true; the input reads as it did. -/
def ereReadsUptoRow : OpenClaim := { program := "ytfmekmbdienbjaadoor", sum := "a42852df269a4282da072a196083451a3b84ad3b01767caf0848e7a7b57ea853", func := "fieldfare/fieldfarelaw04.EreReads", spec := "ereReads", inPlace := ["internal/bytealg.IndexByte", "internal/bytealg.Index", "internal/reflectlite.TypeOf", "internal/reflectlite.ValueOf", "(internal/reflectlite.Value).Type", "(internal/reflectlite.Value).IsNil", "(internal/reflectlite.Value).Elem", "(internal/reflectlite.Value).Set"], unfollowed := true, recurses := true, named := ["internal/bytealg.MaxLen", "errors.errorType"], plainKeys := false, apart := false, laid := [("errors.errorType", laid_errors_errorType)], narrowed := true }
def EreReadsUptoSaid : Prop := ereReadsUptoRow.holds Tryd.pinned (OpenSpec.upto ereReadsSpec)

/-- 'fieldfarelaw04.EreTimes', WHERE WHAT IT READS IS OF BULK AT MOST 1048576: true; the input reads as it did. -/
def ereTimesUptoRow : OpenClaim := { program := "ytfmekmbdienbjaadoor", sum := "a42852df269a4282da072a196083451a3b84ad3b01767caf0848e7a7b57ea853", func := "fieldfare/fieldfarelaw04.EreTimes", spec := "ereTimes", inPlace := ["internal/bytealg.IndexByte", "internal/bytealg.Index", "internal/reflectlite.TypeOf", "internal/reflectlite.ValueOf", "(internal/reflectlite.Value).Type", "(internal/reflectlite.Value).IsNil", "(internal/reflectlite.Value).Elem", "(internal/reflectlite.Value).Set"], unfollowed := true, recurses := true, named := ["internal/bytealg.MaxLen", "errors.errorType"], plainKeys := false, apart := false, laid := [("errors.errorType", laid_errors_errorType)], narrowed := true }
def EreTimesUptoSaid : Prop := ereTimesUptoRow.holds Tryd.pinned (OpenSpec.upto ereTimesSpec)

end Rows
end Go.Proofs.YtfmekmbdienbjaaDoor
