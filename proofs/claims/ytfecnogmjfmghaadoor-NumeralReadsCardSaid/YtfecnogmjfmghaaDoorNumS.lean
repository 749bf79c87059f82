/- Plain facts: the document's text of a number, by its digits. Nothing of the program. -/
import Derived.Test.YtfecnogmjfmghaaDoorNumInts
import Derived.Test.YtfecnogmjfmghaaDoorRefM
namespace Go.Proofs.YtfecnogmjfmghaaDoor
set_option linter.unusedSimpArgs false
set_option linter.unusedVariables false
set_option linter.unnecessarySimpa false
open Go.RowKit

/-- A digit's byte. -/
def bD (d : Nat) : UInt8 := UInt8.ofNat (48 + d)
theorem bD_nat {d : Nat} (h : d < 10) : (bD d).toNat = 48 + d := by unfold bD; rw [UInt8.toNat_ofNat']; omega
theorem bD_mod (u : Nat) : bD (u % 10) = dgB u := rfl
/-- The digits, the lowest first, at least seven. -/
def pd (m : Nat) : List Nat := dig m ++ List.replicate (7 - (dig m).length) 0
theorem low_dgs : ∀ (k m j : Nat), k ≤ (dig m).length + j → ((dig m ++ List.replicate j 0).take k).map bD = (dgs k m).reverse := by
  intro k
  induction k with
  | zero => intro m j _; rfl
  | succ k ih =>
    intro m j h
    show _ = (dgs k (m / 10) ++ [dgB m]).reverse
    rw [List.reverse_append]
    show _ = dgB m :: (dgs k (m / 10)).reverse
    by_cases h0 : m = 0
    · subst h0
      rw [dig_zero] at h ⊢
      have hj : ∃ i, j = i + 1 := ⟨j - 1, by simp at h; omega⟩
      obtain ⟨i, rfl⟩ := hj
      have := ih 0 i (by rw [dig_zero]; simp at h ⊢; omega)
      rw [dig_zero, List.nil_append] at this
      rw [List.nil_append, List.replicate_succ, List.take_succ_cons, List.map_cons, this]
      rfl
    · have := ih (m / 10) j (by rw [dig_pos h0, List.length_cons] at h; omega)
      rw [dig_pos h0, List.cons_append, List.take_succ_cons, List.map_cons, this, bD_mod]
theorem dec10_dig (u : Nat) : dec10 u = ((if u = 0 then [0] else dig u).map bD).reverse := by
  induction u using Nat.strongRecOn with
  | ind u ih =>
    by_cases h0 : u = 0
    · subst h0; rw [dec10_le (by omega), if_pos rfl]; rfl
    · rw [if_neg h0, dig_pos h0, List.map_cons, List.reverse_cons, bD_mod]
      by_cases h9 : u ≤ 9
      · rw [dec10_le h9, show u / 10 = 0 by omega, dig_zero]; rfl
      · rw [dec10_gt (by omega), ih (u / 10) (by omega), if_neg (by omega)]
theorem pd_drop (m : Nat) : (pd m).drop 6 = if m / 1000000 = 0 then [0] else dig (m / 1000000) := by
  have e6 : (10 : Nat) ^ 6 = 1000000 := by decide
  have hi := dig_len_iff m 6
  rw [e6] at hi
  unfold pd
  by_cases h : (dig m).length ≤ 6
  · rw [if_pos (by have := hi.1 h; omega), List.drop_append, List.drop_of_length_le h, List.nil_append, List.drop_replicate]
    rw [show 7 - (dig m).length - (6 - (dig m).length) = 1 by omega]; rfl
  · have h7 : 7 - (dig m).length = 0 := by omega
    rw [if_neg (by intro h0; exact h (hi.2 (by omega))), h7, List.replicate_zero, List.append_nil, dig_drop, e6]
theorem who_all {m : Nat} (h : m < topN) : whoL m = dec10 (m / 1000000) := by
  rw [topN_eq] at h
  have e : d36 m = d29 (m / 1000000 / 10) ++ ([dgB (m / 1000000)] ++ d6 (m % 1000000)) := by
    rw [d36_split, d30_eq, List.append_assoc]
  unfold whoL
  rw [e, List.take_left' (d29_len _), List.drop_left' (d29_len _)]
  show lead (d29 (m / 1000000 / 10)) ++ [dgB (m / 1000000)] = _
  have hl : lead (d29 (m / 1000000 / 10)) = if m / 1000000 / 10 = 0 then [] else dec10 (m / 1000000 / 10) := lead_dgs 29 (m / 1000000 / 10) (Nat.lt_of_le_of_lt (by omega : m / 1000000 / 10 ≤ 99999999999999999999999999999) (by decide))
  rw [hl]
  generalize m / 1000000 = u at *
  by_cases h0 : u / 10 = 0
  · rw [if_pos h0, dec10_le (by omega)]; rfl
  · rw [if_neg h0]; exact (dec10_gt (u := u) (by omega)).symm
theorem who_pd {m : Nat} (h : m < topN) : whoL m = (((pd m).drop 6).map bD).reverse := by
  rw [who_all h, dec10_dig, pd_drop]
theorem d36_low (m : Nat) : (d36 m).drop 30 = dgs 6 m := by
  have e : d36 m = dgs 30 (m / 10 ^ 6) ++ dgs 6 m := dgs_add 30 6 m
  rw [e, List.drop_left' (dgs_len 30 _)]
theorem fra_pd (m : Nat) : fraL m = (lead (((pd m).take 6).map bD)).reverse := by
  unfold fraL trail
  rw [d36_low]
  have := low_dgs 6 m (7 - (dig m).length) (by omega)
  unfold pd
  rw [this]
theorem pd_digs (m : Nat) : Digs (pd m) := by
  unfold pd
  exact (dig_lt m).app (fun d hd => by rw [List.mem_replicate] at hd; omega)
theorem pd_len (m : Nat) : (pd m).length = if (dig m).length ≤ 7 then 7 else (dig m).length := by
  unfold pd; rw [List.length_append, List.length_replicate]; split <;> omega
/-- Where the first digit is that isn't 0. -/
def fnz : List Nat → Nat
  | [] => 0
  | d :: l => if d = 0 then fnz l + 1 else 0
theorem fnz_le (l : List Nat) : fnz l ≤ l.length := by
  induction l with
  | nil => exact Nat.le_refl _
  | cons d l ih => unfold fnz; split <;> simp <;> omega
theorem lead_fnz : ∀ (l : List Nat), Digs l → lead (l.map bD) = (l.drop (fnz l)).map bD := by
  intro l
  induction l with
  | nil => intro _; rfl
  | cons d l ih =>
    intro h
    have hd : d < 10 := h d (by simp)
    unfold fnz
    by_cases h0 : d = 0
    · rw [if_pos h0, List.map_cons, lead_cons48 (by rw [bD_nat hd, h0]), ih (fun x hx => h x (by simp [hx]))]; rfl
    · rw [if_neg h0, List.map_cons, lead_cons (by rw [bD_nat hd]; omega)]; rfl
theorem fnz_cons (d : Nat) (l : List Nat) : fnz (d :: l) = if d = 0 then fnz l + 1 else 0 := rfl
theorem fnz_step {l : List Nat} {k : Nat} (hk : k < l.length) (hz : fnz l = k + fnz (l.drop k)) : (l.getD k 0 = 0 → fnz l = (k + 1) + fnz (l.drop (k + 1))) ∧ (l.getD k 0 ≠ 0 → fnz l = k) := by
  rw [drop_getD l hk, fnz_cons] at hz
  constructor
  · intro h; rw [if_pos h] at hz; rw [hz]; omega
  · intro h; rw [if_neg h] at hz; omega
end Go.Proofs.YtfecnogmjfmghaaDoor
