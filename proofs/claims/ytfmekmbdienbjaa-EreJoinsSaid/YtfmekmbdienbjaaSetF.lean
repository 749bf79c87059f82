/- Bracket expressions as lists of bytes; the contracts of fault, is, begins, letter, rangeGoesOn. -/
import Derived.Test.YtfmekmbdienbjaaSetD
namespace Go.Proofs.Ytfmekmbdienbjaa
set_option linter.unusedSimpArgs false
set_option linter.unusedVariables false
set_option linter.unnecessarySimpa false
open Go.RowKit

/-- Does a byte stand at a place? -/
def isL (l : List UInt8) (k : Nat) (c : UInt8) : Bool := decide (k < l.length) && l.getD k 0 == c
/-- Do two bytes stand at a place? -/
def begL (l : List UInt8) (k : Nat) (c d : UInt8) : Bool := isL l k c && isL l (k + 1) d
/-- The byte or the escape at a place, and the place behind it. -/
def letL (l : List UInt8) (k : Nat) : Option (UInt8 × Nat) :=
  if k < l.length ∧ l.getD k 0 ≠ 92 then some (l.getD k 0, k + 1)
  else if k + 1 < l.length then some (escU (l.getD (k + 1) 0), k + 2)
  else none
/-- Does a range go on at a place? -/
def goesL (l : List UInt8) (k : Nat) : Bool := isL l k 45 && (decide (k + 1 < l.length) && l.getD (k + 1) 0 != 93)
theorem isL_lt {l : List UInt8} {k : Nat} {c : UInt8} (h : isL l k c = true) : k < l.length ∧ l.getD k 0 = c := by
  unfold isL at h; simpa using h
theorem letL_le {l : List UInt8} {k n : Nat} {c : UInt8} (h : letL l k = some (c, n)) : k < n ∧ n ≤ l.length ∧ n ≤ k + 2 := by
  unfold letL at h
  split at h
  · rename_i h1; simp at h; omega
  · split at h
    · simp at h; omega
    · cases h

/-- The value of an error at a place. -/
def IsF (w : World) (v : Value) (a c : Nat) : Prop := ∃ b, v = .iface 47 (.pointer (some ⟨b, 0, none⟩)) ∧ Row w b 49 #[.int .i64 (a : Int), .iface 41 (.int .i64 (c : Int))]
theorem IsF.on {w w' : World} {v : Value} {a c : Nat} (h : IsF w v a c) (k : Below w.heap.size w w') : IsF w' v a c := by
  obtain ⟨b, e, r⟩ := h
  exact ⟨b, e, r.on k⟩
/-- An own block that was laid behind B. -/
theorem IsF.far {w : World} {v : Value} {a c : Nat} (h : IsF w v a c) : ∃ b, v = .iface 47 (.pointer (some ⟨b, 0, none⟩)) ∧ b < w.heap.size := by
  obtain ⟨b, e, r⟩ := h; exact ⟨b, e, r.lt⟩

theorem fault_u (a c : Nat) (w : World) :
    Calls Try.prog 34 #[.int .i64 (a : Int), .int .i64 (c : Int)] w fun e w' => e = .returned (.iface 47 (.pointer (some ⟨w.heap.size, 0, none⟩))) ∧ w' = w.alloc (.cells #[.int .i64 (a : Int), .iface 41 (.int .i64 (c : Int))] 49) := by
  go_enter Try.func34, Try.ntmps34
  go_wp2
  go_ret
  exact ⟨rfl, rfl⟩

set_option maxRecDepth 100000 in
set_option maxHeartbeats 4000000 in
theorem is_u {v : Value} {l : List UInt8} {w : World} (h : BS w v l) (hl : l.length ≤ 1000000000) (k : Nat) (hk : k ≤ 2000000000) (c : UInt8) :
    Calls Try.prog 35 #[v, .int .i64 (k : Int), bv c] w fun e w' => e = .returned (.bool (isL l k c)) ∧ w = w' := by
  obtain ⟨p, cp, rfl, hlc, hcm, hU⟩ := h
  obtain ⟨b, hb⟩ : ∃ b, b = isL l k c := ⟨_, rfl⟩
  rw [← hb]
  by_cases hlt : k < l.length
  · obtain ⟨bk, off, rfl, hbb, hcs⟩ := hU (by rintro rfl; simp at hlt)
    have k0 := hcs k hlt
    have h1 : (k : Int) < (l.length : Int) := by omega
    have h2 : (0 : Int) ≤ (k : Int) := by omega
    have h3 : decide (k < l.length) = true := decide_eq_true hlt
    have e : (((l.getD k 0).toNat : Int) == (c.toNat : Int)) = b := by
      rw [hb]; unfold isL; rw [h3, Bool.true_and]
      by_cases hx : l.getD k 0 = c
      · rw [hx]; simp
      · have : ¬ ((l.getD k 0).toNat : Int) = (c.toNat : Int) := fun h => hx (UInt8.toNat_inj.1 (by exact_mod_cast h))
        rw [beq_eq_false_iff_ne.2 this, beq_eq_false_iff_ne.2 hx]
    clear hcs hb hU
    unfold bv at k0 ⊢
    generalize (l.getD k 0).toNat = x at *
    generalize c.toNat = y at *
    go_enter Try.func35, Try.ntmps35
    go_wp2
    go_ret
    exact ⟨rfl, rfl⟩
  · have hf : b = false := by rw [hb]; unfold isL; rw [decide_eq_false hlt]; rfl
    subst hf
    have h3 : decide (k < l.length) = false := decide_eq_false hlt
    clear hb hU
    go_enter Try.func35, Try.ntmps35
    go_wp2
    go_ret
    exact ⟨rfl, rfl⟩
end Go.Proofs.Ytfmekmbdienbjaa
