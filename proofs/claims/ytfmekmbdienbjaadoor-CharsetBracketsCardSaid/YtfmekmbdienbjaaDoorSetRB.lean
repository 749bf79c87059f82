/- The document's own Bracket at a place that is no place of a bracket; its answers in memory. -/
import Derived.Test.YtfmekmbdienbjaaDoorSetR
import Derived.Deep.WholeRow
import Derived.Laws.Tables
import Derived.Laws.Rows
import Derived.Laws.CopyOwn
namespace Go.Proofs.YtfmekmbdienbjaaDoor
set_option linter.unusedSimpArgs false
set_option linter.unusedVariables false
set_option linter.unnecessarySimpa false
open Go.RowKit

noncomputable abbrev gZ : Array Value := Tryd.zeroCells34
theorem gZ_size : gZ.size = 259 := by kernel_rfl
theorem gZ_one : (gZ.toList.all (·.oneCell')) = true := by kernel_rfl
theorem gZ_info : (Tryd.prog.info? 34).map (·.size) = some 259 := by kernel_rfl
/-- The cells of an answer that tells what is wrong. -/
noncomputable def badG (c a : Int) : List Value := (gZ.toList.set 257 (.int .i64 c)).set 258 (.int .i64 a)
theorem set_one {L : List Value} (h : ∀ v ∈ L, v.oneCell' = true) (k : Nat) (x : Value) (hx : x.oneCell' = true) : ∀ v ∈ L.set k x, v.oneCell' = true := by
  intro v hv
  rcases List.mem_or_eq_of_mem_set hv with h1 | h1
  · exact h v h1
  · rw [h1]; exact hx
theorem gZ_ones : ∀ v ∈ gZ.toList, v.oneCell' = true := fun v hv => List.all_eq_true.1 gZ_one v hv
theorem got_store {w : World} {B : Nat} {cs : Array Value} (hr : Row w B 34 cs) (hs : cs.size = 259) (L : List Value) (hL : L.length = 259) (h1 : ∀ v ∈ L, v.oneCell' = true) :
    (storeCells ⟨B, 0, none⟩ L).run Tryd.prog w = .ok () (w.setRow B L.toArray) := by
  have := run_storeCells_from (P := Tryd.prog) B 34 L 0 cs w hr (by rw [hs, hL]) h1
  simpa using this
theorem got_row {w : World} {B : Nat} {cs : Array Value} (hr : Row w B 34 cs) (L : List Value) : Row (w.setRow B L.toArray) B 34 L.toArray := setRow_heap w B _ _ _ _ hr
theorem got_ret {w : World} {B : Nat} {L : List Value} (hr : Row w B 34 L.toArray) (hL : L.length = 259) (tmps : Array Value) (ht : tmps.getD 4 undef = .pointer (some ⟨B, 0, none⟩)) :
    (results Tryd.f8 tmps).run Tryd.prog w = .ok (.agg L.toArray) w :=
  results_cell_row rfl tmps w B _ _ _ _ ht hr Tryd.underlying34 rfl (by rw [gZ_info, List.size_toArray, hL])

set_option maxRecDepth 100000 in
set_option maxHeartbeats 8000000 in
theorem rbrk_arg (l : List UInt8) (at_ : Int) (hat : ∀ k : Nat, at_ = (k : Int) → isL l k 91 = false) (w : World) :
    Calls Tryd.prog 8 #[.string (S8 l), .int .i64 at_] w fun e w' => e = .returned (.agg (gZ.toList.set 257 (.int .i64 1)).toArray) ∧ Below w.heap.size w w' := by
  have L1 : ∀ ty w, (Builtin.len_ #[9] ty #[.string (S8 l)]).run Tryd.prog w = .ok (.int .i64 (l.length : Int)) w := fun ty w => s8_len l ty w
  have hr : Row (w.alloc (.cells gZ 34)) w.heap.size 34 gZ := Row.new w _ _
  have hB : Below w.heap.size w (w.alloc (.cells gZ 34)) := (Below.refl _ _).alloc (Nat.le_refl _) _
  have hL : (gZ.toList.set 257 (.int .i64 1)).length = 259 := by rw [List.length_set]; exact gZ_size
  have hst := got_store hr gZ_size (gZ.toList.set 257 (.int .i64 1)) hL (set_one gZ_ones _ _ rfl)
  have hrow := Lib.hid (got_row hr (gZ.toList.set 257 (.int .i64 1)))
  have hB2 : Hid (Below w.heap.size w ((w.alloc (.cells gZ 34)).setRow w.heap.size (gZ.toList.set 257 (.int .i64 1)).toArray)) := below_setRow hB (Nat.le_refl _) _
  have HL := Lib.hid hL
  clear hr hL hB
  by_cases h0 : at_ < 0
  · have t0 : decide (at_ < 0) = true := decide_eq_true h0
    clear hat
    generalize S8 l = sl at *
    go_enter Tryd.func8, Tryd.ntmps8
    go_wp2
    exact bodyPost_ret (got_ret hrow.out HL.out _ rfl) rfl ⟨rfl, hB2.out⟩
  · have t0 : decide (at_ < 0) = false := decide_eq_false h0
    obtain ⟨k, rfl⟩ := Int.eq_ofNat_of_zero_le (Int.not_lt.1 h0)
    have hf := hat k rfl
    by_cases hlt : k < l.length
    · have i0 := s8_at l k hlt (k : Int) rfl
      have hne : l.getD k 0 ≠ 91 := by
        intro e; unfold isL at hf; rw [decide_eq_true hlt, e] at hf; simp at hf
      have t3 : (((l.getD k 0).toNat : Int) == 91) = false := by
        rw [beq_eq_false_iff_ne]; intro e; exact hne (UInt8.toNat_inj.1 (by show _ = 91; omega))
      have t4 : (((l.getD k 0).toNat : Int) != 91) = true := by rw [bne, t3]; rfl
      have t2 : decide (l.length ≤ k) = false := decide_eq_false (by omega)
      unfold bv at i0
      clear hat hne hf
      generalize (l.getD k 0).toNat = y at *
      generalize S8 l = sl at *
      go_enter Tryd.func8, Tryd.ntmps8
      go_wp2
      exact bodyPost_ret (got_ret hrow.out HL.out _ rfl) rfl ⟨rfl, hB2.out⟩
    · have t2 : decide (l.length ≤ k) = true := decide_eq_true (by omega)
      clear hat hf
      generalize S8 l = sl at *
      go_enter Tryd.func8, Tryd.ntmps8
      go_wp2
      exact bodyPost_ret (got_ret hrow.out HL.out _ rfl) rfl ⟨rfl, hB2.out⟩
end Go.Proofs.YtfmekmbdienbjaaDoor
