/- Plain facts for the document's own Bracket: its set as 256 bools, its scan for the end of a class's name. -/
import Derived.Test.YtfmekmbdienbjaaDoorSetR
import Derived.Lib.IndexMore
namespace Go.Proofs.YtfmekmbdienbjaaDoor
set_option linter.unusedSimpArgs false
set_option linter.unusedVariables false
set_option linter.unnecessarySimpa false
open Go.RowKit

/-- A set as the document has it: for each byte whether it is in it. -/
def bolA (p : Nat → Bool) : Array Value := ((List.range 256).map fun i => Value.bool (p i)).toArray
theorem bolA_size (p : Nat → Bool) : (bolA p).size = 256 := by simp [bolA]
theorem bolA_get (p : Nat → Bool) {k : Nat} (h : k < 256) : (bolA p)[k]? = some (.bool (p k)) := by
  unfold bolA
  rw [List.getElem?_toArray, List.getElem?_map, List.getElem?_range h]; rfl
theorem bolA_ext {p q : Nat → Bool} (h : ∀ x, x < 256 → p x = q x) : bolA p = bolA q := by
  unfold bolA
  congr 1
  exact List.map_congr_left fun x hx => by rw [h x (List.mem_range.1 hx)]
theorem bolA_set (p : Nat → Bool) (b : Bool) {k : Nat} (h : k < 256) : (bolA p).setIfInBounds k (.bool b) = bolA (fun x => if x = k then b else p x) := by
  refine Array.ext_getElem? fun i => ?_
  by_cases hi : i < 256
  · rw [bolA_get _ hi]
    by_cases hk : i = k
    · subst hk
      rw [Array.getElem?_setIfInBounds_self_of_lt (by rw [bolA_size]; exact hi), if_pos rfl]
    · rw [Array.getElem?_setIfInBounds_ne (fun e => hk e.symm), bolA_get _ hi, if_neg hk]
  · rw [Array.getElem?_eq_none (by rw [Array.size_setIfInBounds, bolA_size]; omega), Array.getElem?_eq_none (by rw [bolA_size]; omega)]
/-- The first j of p are those of q. -/
def upP (p q : Nat → Bool) (j : Nat) : Nat → Bool := fun x => if x < j then q x else p x
theorem upP_0 (p q : Nat → Bool) : bolA (upP p q 0) = bolA p := bolA_ext fun x _ => if_neg (Nat.not_lt_zero _)
theorem upP_all (p q : Nat → Bool) : bolA (upP p q 256) = bolA q := bolA_ext fun x hx => if_pos hx
theorem upP_at (p q : Nat → Bool) (j : Nat) : upP p q j j = p j := if_neg (Nat.lt_irrefl _)
theorem upP_set (p q : Nat → Bool) {j : Nat} (h : j < 256) : (bolA (upP p q j)).setIfInBounds j (.bool (q j)) = bolA (upP p q (j + 1)) := by
  rw [bolA_set _ _ h]
  refine bolA_ext fun x _ => ?_
  unfold upP
  by_cases h1 : x = j
  · rw [if_pos h1, if_pos (by omega), h1]
  · rw [if_neg h1]
    by_cases h2 : x < j
    · rw [if_pos h2, if_pos (by omega)]
    · rw [if_neg h2, if_neg (by omega)]
/-- From a on up to c, c not. -/
def fillP (p : Nat → Bool) (a c : Nat) : Nat → Bool := fun x => p x || (decide (a ≤ x) && decide (x < c))
theorem fillP_0 (p : Nat → Bool) (a : Nat) : bolA (fillP p a a) = bolA p := bolA_ext fun x _ => by
  unfold fillP
  by_cases h : a ≤ x
  · rw [decide_eq_false (by omega : ¬ x < a)]; simp
  · rw [decide_eq_false h]; simp
theorem fillP_set (p : Nat → Bool) {a c : Nat} (hac : a ≤ c) (h : c < 256) : (bolA (fillP p a c)).setIfInBounds c (.bool true) = bolA (fillP p a (c + 1)) := by
  rw [bolA_set _ _ h]
  refine bolA_ext fun x _ => ?_
  unfold fillP
  by_cases h1 : x = c
  · rw [if_pos h1, decide_eq_true (by omega : a ≤ x), decide_eq_true (by omega : x < c + 1)]; simp
  · rw [if_neg h1, show decide (x < c) = decide (x < c + 1) from decide_eq_decide.2 (by omega)]
theorem fillP_end (p : Nat → Bool) {a b c : Nat} (h : c = b + 1 ∨ b < c ∧ c = a) : bolA (fillP p a c) = bolA (fun x => p x || rngP a b x) := bolA_ext fun x _ => by
  unfold fillP rngP
  by_cases h1 : a ≤ x
  · rw [show decide (x < c) = decide (x ≤ b) from decide_eq_decide.2 (by omega)]
  · rw [decide_eq_false h1]; rfl

/-- No end of a name from m on up to e. -/
def NoEnd (l : List UInt8) (m e : Nat) : Prop := ∀ j, m ≤ j → j < e → begL l j 58 93 = false
theorem occ_beg (l : List UInt8) (m j : Nat) : Lib.occAt (l.drop m) [58, 93] j = begL l (m + j) 58 93 := by
  rw [← isT2]
  unfold isT Lib.occAt
  have h := Lib.hasPrefix_of_take (l.drop (m + j)) [58, 93]
  unfold Lib.hasPrefix at h
  rw [List.drop_drop, ← h, List.length_drop]
  show (decide (2 ≤ l.length - (m + j)) && _) = (decide (m + j + 2 ≤ l.length) && _)
  rw [show decide (2 ≤ l.length - (m + j)) = decide (m + j + 2 ≤ l.length) from decide_eq_decide.2 (by omega)]
theorem noEnd_occ {l : List UInt8} {m e : Nat} (h : NoEnd l m e) : Lib.NoOcc (l.drop m) [58, 93] (e - m) := by
  intro j hj
  rw [occ_beg]
  exact h _ (by omega) (by omega)
theorem scan_hit {l : List UInt8} {m e : Nat} (hm : m ≤ e) (he : e ≤ l.length) (h : NoEnd l m e) (hh : begL l e 58 93 = true) : Lib.index (l.drop m) [58, 93] = ((e - m : Nat) : Int) := by
  refine Lib.index_hit (noEnd_occ h) (by rw [List.length_drop]; omega) ?_
  rw [occ_beg, show m + (e - m) = e by omega]; exact hh
theorem scan_end {l : List UInt8} {m e : Nat} (hm : m ≤ l.length) (he : l.length ≤ e) (h : NoEnd l m e) : Lib.index (l.drop m) [58, 93] = -1 := by
  refine Lib.index_past (i := l.length - m) (by simp) (fun j hj => ?_) (by rw [List.length_drop]; simp)
  rw [occ_beg]
  exact h _ (by omega) (by omega)
theorem isL_end (l : List UInt8) (c : UInt8) : isL l l.length c = false := by unfold isL; rw [decide_eq_false (Nat.lt_irrefl _), Bool.false_and]
theorem memM_end (l : List UInt8) : memM l l.length = .bad l.length 7 := by
  have h1 : begL l l.length 91 58 = false := by unfold begL; rw [isL_end, Bool.false_and]
  have h2 : letL l l.length = none := by unfold letL; rw [if_neg (by omega), if_neg (by omega)]
  unfold memM
  rw [h1, h2]; rfl
/-- With a - as the last byte the bytes end. -/
theorem dash_end {l : List UInt8} {m : Nat} (hm : m + 1 = l.length) (hd : isL l m 45 = true) {p : Nat → Bool} {R : MR} (h : RunB l m false p R) : R = .bad l.length 7 := by
  have hx := (isL_lt hd).2
  have n1 : ∀ c : UInt8, c ≠ 45 → isL l m c = false := fun c hc => by
    unfold isL; rw [hx, beq_eq_false_iff_ne.2 (fun e => hc e.symm), Bool.and_false]
  have hmem : memM l m = .ok (rngP 45 45) (m + 1) := by
    have h1 : begL l m 91 58 = false := by unfold begL; rw [n1 91 (by decide), Bool.false_and]
    have h2 : letL l m = some (45, m + 1) := by unfold letL; rw [if_pos ⟨by omega, by rw [hx]; decide⟩, hx]
    have h3 : goesL l (m + 1) = false := by unfold goesL; rw [hm, isL_end, Bool.false_and]
    unfold memM
    rw [h1, h2]
    simp only [Bool.false_eq_true, if_false]
    rw [h3]
    rfl
  rcases runB_inv h with ⟨_, hs, _⟩ | ⟨_, ⟨a, c, h1, _⟩ | ⟨q, n, h1, h2⟩⟩
  · rw [n1 93 (by decide)] at hs; cases hs
  · rw [hmem] at h1; cases h1
  · rw [hmem] at h1
    injection h1 with _ hn
    subst hn
    rw [hm] at h2
    rcases runB_inv h2 with ⟨_, hs, _⟩ | ⟨_, ⟨a, c, h1, h3⟩ | ⟨q, n, h1, _⟩⟩
    · rw [isL_end] at hs; cases hs
    · rw [memM_end] at h1; rw [h3]; exact h1.symm
    · rw [memM_end] at h1; cases h1
end Go.Proofs.YtfmekmbdienbjaaDoor
