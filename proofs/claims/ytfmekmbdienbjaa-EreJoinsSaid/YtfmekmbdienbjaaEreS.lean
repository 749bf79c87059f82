/- Bytes that a call builds by append, from nothing on. Brackets in brackets. -/
import Derived.Test.YtfmekmbdienbjaaEreR
import Derived.Deep.AppendLies
namespace Go.Proofs.Ytfmekmbdienbjaa
set_option linter.unusedSimpArgs false
set_option linter.unusedVariables false
set_option linter.unnecessarySimpa false
open Go.RowKit

/-- Bytes of the call's own. -/
def OwnB (w : World) (BB : Nat) (v : Value) (l : List UInt8) : Prop := w.ownsRow BB 5 1 v l.length (bvs l)
theorem OwnB.nil (w : World) (BB : Nat) : OwnB w BB (.slice none 0 0) [] := ⟨rfl, Or.inl ⟨rfl, rfl⟩⟩
theorem OwnB.blw {w w' : World} {BB : Nat} {v : Value} {l : List UInt8} (h : OwnB w BB v l) (k : Below w.heap.size w w') : OwnB w' BB v l := by
  refine ⟨h.1, ?_⟩
  rcases h.2 with h4 | ⟨g, cap, cur, hv, hg, hh, r⟩
  · exact Or.inl h4
  · exact Or.inr ⟨g, cap, cur, hv, hg, by rw [k.block g (Array.getElem?_eq_some_iff.1 hh).1]; exact hh, r⟩
theorem OwnB.val {w : World} {BB : Nat} {v : Value} {l : List UInt8} (h : OwnB w BB v l) : ∃ ad cap, v = .slice ad l.length cap := by
  rcases h.2 with ⟨rfl, h0⟩ | ⟨g, cap, cur, rfl, _⟩
  · exact ⟨none, 0, by rw [h0]⟩
  · exact ⟨_, _, rfl⟩
theorem OwnB.bs {w : World} {BB : Nat} {v : Value} {l : List UInt8} (h : OwnB w BB v l) : BS w v l := by
  have h' := h
  rcases h.2 with ⟨rfl, h0⟩ | ⟨g, cap, cur, rfl, hg, hh, h4, h5, h6, h7⟩
  · obtain rfl : l = [] := List.length_eq_zero_iff.1 h0
    exact BS.nil w
  · refine ⟨_, cap, rfl, h4, h5, fun hn => ⟨g, 0, rfl, (Array.getElem?_eq_some_iff.1 hh).1, fun j hj => ?_⟩⟩
    have h8 := World.ownsRow.cells h' (g := g) rfl j _ (bvs_get hj)
    have e : (⟨g, 0, none⟩ : Addr).add j = ⟨g, 0 + j, none⟩ := by unfold Addr.add; split <;> simp_all
    rwa [e] at h8
theorem u8_parts : ∃ i, Try.prog.info? 5 = some i ∧ i.zero = some (.int .u8 0) ∧ i.size = 1 ∧ i.bytes = 1 := by
  have h := u8_info
  cases hq : Try.prog.info? 5 with
  | none => rw [hq] at h; cases h
  | some i =>
    rw [hq] at h
    simp only [Option.map_some, Option.some.injEq, Prod.mk.injEq] at h
    exact ⟨i, rfl, h.1, h.2.1, h.2.2⟩
theorem bvs_app (a b : List UInt8) : bvs a ++ bvs b = bvs (a ++ b) := by simp [bvs]

/-- k brackets, a, k brackets. -/
def deepL (k : Nat) : List UInt8 := List.replicate k 40 ++ ([97] ++ List.replicate k 41)
theorem deepL_len (k : Nat) : (deepL k).length = 2 * k + 1 := by simp [deepL]; omega
theorem deepL_a {k j : Nat} (h : j < k) : (deepL k).getD j 0 = 40 := by
  unfold deepL
  rw [List.getD_eq_getElem?_getD, List.getElem?_append_left (by simpa using h), List.getElem?_replicate, if_pos h]; rfl
theorem deepL_m (k : Nat) : (deepL k).getD k 0 = 97 := by
  unfold deepL
  rw [List.getD_eq_getElem?_getD, List.getElem?_append_right (by simp)]; simp
theorem deepL_z {k j : Nat} (h : k < j) (h2 : j < 2 * k + 1) : (deepL k).getD j 0 = 41 := by
  unfold deepL
  rw [List.getD_eq_getElem?_getD, List.getElem?_append_right (by simp; omega), List.length_replicate, List.getElem?_append_right (by simp; omega), List.getElem?_replicate, if_pos (by simp; omega)]; rfl
theorem isL_of {l : List UInt8} {k : Nat} {c d : UInt8} (hk : k < l.length) (h : l.getD k 0 = c) : isL l k d = (c == d) := by
  unfold isL; rw [decide_eq_true hk, h, Bool.true_and]
theorem signL_no {l : List UInt8} {k : Nat} (h : l.length ≤ k ∨ (k < l.length ∧ l.getD k 0 = 41)) : signL l k = .none := by
  unfold signL
  rcases h with h | ⟨h, h2⟩
  · rw [isL_fin h, isL_fin h, isL_fin h, isL_fin h]; rfl
  · rw [isL_of h h2, isL_of h h2, isL_of h h2, isL_of h h2]; rfl
theorem endB_yes {l : List UInt8} {k : Nat} (h : l.length ≤ k ∨ (k < l.length ∧ l.getD k 0 = 41)) : endB l k = true := by
  unfold endB
  rcases h with h | ⟨h, h2⟩
  · rw [decide_eq_true h]; rfl
  · rw [isL_of h h2, isL_of h h2]; simp
theorem no_or {l : List UInt8} {k : Nat} (h : l.length ≤ k ∨ (k < l.length ∧ l.getD k 0 = 41)) : isL l k 124 = false := by
  rcases h with h | ⟨h, h2⟩
  · exact isL_fin h _
  · rw [isL_of h h2]; rfl
def tA : PT := setT (rngP 97 97)
theorem behind {k j : Nat} (h : k < j) : (deepL k).length ≤ j ∨ (j < (deepL k).length ∧ (deepL k).getD j 0 = 41) := by
  rw [deepL_len]
  rcases Nat.lt_or_ge j (2 * k + 1) with h2 | h2
  · exact Or.inr ⟨h2, deepL_z h h2⟩
  · exact Or.inl h2
/-- An atom with nothing behind it but what closes. -/
theorem exp_atom {l : List UInt8} {i o m : Nat} {t : PT} (he : endB l i = false) (ha : RunE l (.atm i o) (.ok t m)) (hb : l.length ≤ m ∨ (m < l.length ∧ l.getD m 0 = 41)) : RunE l (.exp i o []) (.ok t m) := by
  have h1 : RunE l (.bra i o []) (.ok t m) := .braOn i o [] t t m m _ he ha (.pieEnd m o t 0 (signL_no hb)) (.braEnd m o [t] (endB_yes hb))
  exact .expEnd i o [] t m h1 (no_or hb)
theorem deep_ok {k : Nat} (hk : k ≤ 64) : ∀ d i : Nat, i + d = k → RunE (deepL k) (.exp i i []) (.ok tA (2 * k + 1 - i)) := by
  intro d
  induction d with
  | zero =>
    intro i hi
    obtain rfl : i = k := by omega
    have hl : i < (deepL i).length := by rw [deepL_len]; omega
    have hp : plainA (deepL i) i = .ok tA (i + 1) := by
      unfold plainA
      rw [isL_of hl (deepL_m i), isL_of hl (deepL_m i), isL_of hl (deepL_m i), isL_of hl (deepL_m i), isL_of hl (deepL_m i), isL_of hl (deepL_m i), isL_of hl (deepL_m i), deepL_m]
      rfl
    have ha : RunE (deepL i) (.atm i i) (.ok tA (i + 1)) := by
      rw [← hp]
      exact .atmOne i i hl (by rw [isL_of hl (deepL_m i)]; rfl) (by rw [isL_of hl (deepL_m i)]; rfl)
    have he : endB (deepL i) i = false := by
      unfold endB; rw [isL_of hl (deepL_m i), isL_of hl (deepL_m i), decide_eq_false (by omega)]; rfl
    rw [show 2 * i + 1 - i = i + 1 by omega]
    exact exp_atom he ha (behind (by omega))
  | succ d ih =>
    intro i hi
    have hl : i < (deepL k).length := by rw [deepL_len]; omega
    have h40 := deepL_a (k := k) (j := i) (by omega)
    have hx := ih (i + 1) (by omega)
    have hc : isL (deepL k) (2 * k + 1 - (i + 1)) 41 = true := by
      rw [isL_of (by rw [deepL_len]; omega) (deepL_z (by omega) (by omega))]; rfl
    have ha : RunE (deepL k) (.atm i i) (.ok tA (2 * k + 1 - i)) := by
      have := RunE.atmOk i i tA _ (by rw [isL_of hl h40]; rfl) (by omega) hx hc
      rwa [show 2 * k + 1 - (i + 1) + 1 = 2 * k + 1 - i by omega] at this
    have he : endB (deepL k) i = false := by
      unfold endB; rw [isL_of hl h40, isL_of hl h40, decide_eq_false (by omega)]; rfl
    exact exp_atom he ha (behind (by omega))
theorem deep_bad {k : Nat} (hk : 64 < k) : ∀ d i : Nat, i + d = 64 → RunE (deepL k) (.exp i i []) (.bad 64 6) := by
  intro d
  induction d with
  | zero =>
    intro i hi
    obtain rfl : i = 64 := by omega
    have hl : 64 < (deepL k).length := by rw [deepL_len]; omega
    have h40 := deepL_a (k := k) (j := 64) hk
    have he : endB (deepL k) 64 = false := by
      unfold endB; rw [isL_of hl h40, isL_of hl h40, decide_eq_false (by omega)]; rfl
    exact .expBad 64 64 [] 64 6 (.braBad 64 64 [] 64 6 he (.atmDeep 64 (by rw [isL_of hl h40]; rfl)))
  | succ d ih =>
    intro i hi
    have hl : i < (deepL k).length := by rw [deepL_len]; omega
    have h40 := deepL_a (k := k) (j := i) (by omega)
    have he : endB (deepL k) i = false := by
      unfold endB; rw [isL_of hl h40, isL_of hl h40, decide_eq_false (by omega)]; rfl
    exact .expBad i i [] 64 6 (.braBad i i [] 64 6 he (.atmBad i i 64 6 (by rw [isL_of hl h40]; rfl) (by omega) (ih (i + 1) (by omega))))
theorem tA_one : cntP (rngP 97 97) 256 = 1 := by decide +kernel
end Go.Proofs.Ytfmekmbdienbjaa
