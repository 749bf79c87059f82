/- errors.As at an error's place; Code and place of an error at a place. -/
import Derived.Test.YtfmekmbdienbjaaSetX
namespace Go.Proofs.Ytfmekmbdienbjaa
set_option linter.unusedSimpArgs false
set_option linter.unusedVariables false
set_option linter.unnecessarySimpa false
open Go.RowKit Go.Extern.Stop Go.Stop Go.Extern

abbrev hnd (t : TypeId) : Value := .pointer (some ⟨1, t, none⟩)
abbrev rv (t : TypeId) (a : Addr) (fl : Int) : Value := .agg #[hnd t, .pointer (some a), .int .u64 fl]
theorem methodKind (h : Value) (w : World) : (Go.method 228 59 (.agg #[h]) "Kind").run Try.prog w = .ok (71, h) w := by kernel_rfl
theorem kindF (w : World) : ((ReflectliteType.abiMethod fun t => (fun a : Nat => Value.int IntKind.u8 (a : Int)) <$> Rtype.kind t) #[hnd 47]).run Try.prog w = .ok (.int .u8 22) w := by kernel_rfl
theorem vmeth (z : Sem Value) (f : TypeId → Addr → Nat → Nat → Sem Value) (v : Value) : ReflectliteValue.method z f #[v] = (ReflectliteValue.parts v >>= fun o => match o with | none => z | some (t, a, fl) => f t a fl (fl % 32)) := rfl
theorem methodElemT (h : Value) (w : World) : (Go.method 228 59 (.agg #[h]) "Elem").run Try.prog w = .ok (75, .agg #[h]) w := by kernel_rfl
theorem methodImplements (h : Value) (w : World) : (Go.method 228 59 (.agg #[h]) "Implements").run Try.prog w = .ok (76, .agg #[h]) w := by kernel_rfl
theorem methodAssignable (h : Value) (w : World) : (Go.method 228 59 (.agg #[h]) "AssignableTo").run Try.prog w = .ok (73, .agg #[h]) w := by kernel_rfl
theorem implementsF (w : World) : (ReflectliteType.relation "Implements" ReflectliteType.implements_ #[.agg #[hnd 47], .iface 59 (.agg #[hnd 31])]).run Try.prog w = .ok (.bool true) w := by kernel_rfl
theorem typeOfF (v : Value) (w : World) : (ReflectliteType.typeOf #[.iface 47 v]).run Try.prog w = .ok (.iface 59 (.agg #[hnd 47])) w := by kernel_rfl
theorem assignableF (w : World) : (ReflectliteType.relation "AssignableTo" ReflectliteType.assignableTo #[.agg #[hnd 47], .iface 59 (.agg #[hnd 47])]).run Try.prog w = .ok (.bool true) w := by kernel_rfl
theorem valueOfF (e : Addr) (w : World) : (ReflectliteValue.unpack (.iface 47 (.pointer (some e)))).run Try.prog w
    = .ok (rv 47 ⟨w.heap.size, 0, none⟩ 150) (w.alloc (.cells #[.pointer (some e)] 47)) := by kernel_rfl
theorem mkF (p : Addr) (w : World) : (ReflectliteValue.mk 47 p ReflectliteValue.flagAddr).run Try.prog w = .ok (rv 47 p 406) w := by kernel_rfl
theorem partsFa (a : Addr) (w : World) : (ReflectliteValue.parts (rv 47 a 406)).run Try.prog w = .ok (some (47, a, 406)) w := by kernel_rfl
theorem partsF (a : Addr) (w : World) : (ReflectliteValue.parts (rv 47 a 150)).run Try.prog w = .ok (some (47, a, 150)) w := by kernel_rfl
theorem directF (w : World) : (Rtype.directlyAssignable 47 47).run Try.prog w = .ok true w := by kernel_rfl
theorem sizeF (w : World) : (sizeOf 47).run Try.prog w = .ok 1 w := by kernel_rfl
theorem setF (ta b e : Addr) (old : Value) (W : World) (hb : W.cell? b = some (.pointer (some e))) (ht : W.cell? ta = some old) (hf : W.frozen? ta = false) :
    (ReflectliteValue.set #[rv 47 ta 406, rv 47 b 150]).run Try.prog W = .ok (.tuple #[]) (W.setCell ta (.pointer (some e))) := by
  have g0 : ∀ (v x : Value) h h', (#[v, x] : Array Value).getLit (n := 2) 0 h h' = v := fun _ _ _ _ => rfl
  have g1 : ∀ (v x : Value) h h', (#[v, x] : Array Value).getLit (n := 2) 1 h h' = x := fun _ _ _ _ => rfl
  delta ReflectliteValue.set ReflectliteValue.set.match_3
  simp only [Array.size, List.length_cons, List.length_nil, Nat.zero_add, Nat.reduceAdd, dif_pos, Sem.run_bind, g0, g1, partsFa, partsF, Result.andThen]
  simp [ReflectliteValue.flagAddr, loadVar, isAgg, underlying, Try.underlying47, hb, Result.andThen, directF, storeVar, Value.cells, storeCells, Addr.add]
  rw [run_store Try.prog W ta _ _ (by rfl)]
  simp [ht, hf]
end Go.Proofs.Ytfmekmbdienbjaa
