/- Plain facts: a number's text is read as it was. Nothing of the program. -/
import Derived.Test.YtfecnogmjfmghaaDoorNumM
namespace Go.Proofs.YtfecnogmjfmghaaDoor
set_option linter.unusedSimpArgs false
set_option linter.unusedVariables false
set_option linter.unnecessarySimpa false
open Go.RowKit

theorem trail_ex (l : List UInt8) : ∃ k, l = trail l ++ zer k := by
  obtain ⟨k, h, _⟩ := lead_ex l.reverse
  refine ⟨k, ?_⟩
  have := congrArg List.reverse h
  rw [List.reverse_reverse, List.reverse_append, List.reverse_replicate] at this
  exact this
theorem trail_mem {l : List UInt8} {c : UInt8} (h : c ∈ trail l) : c ∈ l := by
  obtain ⟨k, e⟩ := trail_ex l
  rw [e]; exact List.mem_append.2 (Or.inl h)
theorem zer_add (a b : Nat) : zer a ++ zer b = zer (a + b) := by unfold zer; rw [List.replicate_append_replicate]
theorem zer_len (k : Nat) : (zer k).length = k := by unfold zer; simp
theorem six_pad {l : List UInt8} (h : l.length = 6) (k : Nat) : six (trail l ++ zer k) = l := by
  obtain ⟨j, e⟩ := trail_ex l
  have hl := congrArg List.length e
  rw [List.length_append, zer_len, h] at hl
  unfold six
  show (trail l ++ zer k ++ zer 6).take 6 = l
  rw [List.append_assoc, zer_add, List.take_append, List.take_of_length_le (by omega)]
  conv => rhs; rw [e]
  congr 1
  unfold zer
  rw [List.take_replicate]
  congr 1
  omega
theorem head_val {D : List UInt8} (h : D.length = 36) : valU (lead (D.take 29) ++ (D.drop 29).take 1) = valU (D.take 30) := by
  have e : D.take 30 = D.take 29 ++ (D.drop 29).take 1 := by
    rw [show (30 : Nat) = 29 + 1 from rfl, List.take_add]
  rw [e, valU_append, valU_append, valU_lead]
/-- The digits ahead of the point, and those behind it, of a magnitude. -/
def whoL (m : Nat) : List UInt8 := lead ((d36 m).take 29) ++ ((d36 m).drop 29).take 1
def fraL (m : Nat) : List UInt8 := trail ((d36 m).drop 30)
theorem text_mag {m : Nat} (hm : m < topN) (k : Nat) : magOf (whoL m) (fraL m ++ zer k) = m := by
  have hl := d36_len m
  unfold magOf whoL fraL
  rw [head_val hl, six_pad (by rw [List.length_drop, hl])]
  have h1 : valU (d36 m) = m := by
    have := valU_dgs 36 m
    rw [topN_eq] at hm
    rw [Nat.mod_eq_of_lt (Nat.lt_of_lt_of_le hm (by decide))] at this
    exact this
  conv => rhs; rw [← h1, ← List.take_append_drop 30 (d36 m), valU_append]
  rw [List.length_drop, hl]
theorem who_dgt (m : Nat) : allD (whoL m) := by
  have h : allD (d36 m) := dgs_dgt 36 m
  intro c hc
  rcases List.mem_append.1 hc with h1 | h1
  · exact h c (List.mem_of_mem_take (lead_mem h1))
  · exact h c (List.mem_of_mem_drop (List.mem_of_mem_take h1))
theorem fra_dgt (m : Nat) : allD (fraL m) := by
  have h : allD (d36 m) := dgs_dgt 36 m
  intro c hc
  exact h c (List.mem_of_mem_drop (trail_mem hc))
theorem who_ne (m : Nat) : whoL m ≠ [] := by
  intro h
  have := congrArg List.length h
  unfold whoL at this
  rw [List.length_append, List.length_take, List.length_drop, d36_len] at this
  simp at this
theorem who_len (m : Nat) : (whoL m).length ≤ 30 := by
  unfold whoL
  have := lead_le ((d36 m).take 29)
  rw [List.length_take] at this
  rw [List.length_append, List.length_take]
  omega
theorem fra_len (m : Nat) : (fraL m).length ≤ 6 := by
  unfold fraL
  have := trail_len ((d36 m).drop 30)
  rw [List.length_drop, d36_len] at this
  omega
theorem text_eq {b : Bool} {m : Nat} (h : goodB b m = true) : textL b m = (if b then [45] else []) ++ (whoL m ++ (if fraL m = [] then [] else [46] ++ fraL m)) := by
  unfold textL textD headL whoL fraL
  rw [if_pos h]
  split <;> simp
theorem text_len (b : Bool) (m : Nat) : (textL b m).length ≤ 38 := by
  cases h : goodB b m with
  | false => unfold textL; rw [h]; simp
  | true =>
    rw [text_eq h]
    have := who_len m
    have := fra_len m
    cases b <;> (by_cases hf : fraL m = [] <;> simp [hf] <;> omega)
theorem hd_dgt {W : List UInt8} (h : allD W) (hne : W ≠ []) (l : List UInt8) : isDgt (hd8 (W ++ l)) := by
  cases W with
  | nil => exact absurd rfl hne
  | cons c W => exact h c (by simp)
/-- Digits, a point, digits: what they are read as, whatever that isn't one of them stands behind. -/
theorem parts_point {S W F R : List UInt8} {c : UInt8} (hS : S = [] ∨ ∃ d : UInt8, (d.toNat = 43 ∨ d.toNat = 45) ∧ S = [d]) (hW : allD W) (hne : W ≠ []) (hF : allD F) (hc : c.toNat = 46) (hR : ¬ isDgt (hd8 R)) :
    Parts (S ++ (W ++ ([c] ++ (F ++ R)))) [] S W [c] F R := by
  have hd := hd_dgt hW hne ([c] ++ (F ++ R))
  refine ⟨⟨hW, hF, Or.inr ⟨⟨c, hc, rfl⟩, hR⟩⟩, by intro x hx; (cases hx), ?_, rfl⟩
  rcases hS with rfl | hS
  · left
    unfold isDgt at hd
    refine ⟨rfl, ?_, ?_, ?_⟩
    · unfold isBlk; omega
    · omega
    · omega
  · exact Or.inr hS
theorem parts_plain {S W R : List UInt8} (hS : S = [] ∨ ∃ d : UInt8, (d.toNat = 43 ∨ d.toNat = 45) ∧ S = [d]) (hW : allD W) (hne : W ≠ []) (hR : ¬ isDgt (hd8 R)) (hR' : hd8 R ≠ 46) :
    Parts (S ++ (W ++ R)) [] S W [] [] R := by
  have hd := hd_dgt hW hne R
  refine ⟨⟨hW, by intro x hx; (cases hx), Or.inl ⟨rfl, rfl, hR, hR'⟩⟩, by intro x hx; (cases hx), ?_, rfl⟩
  rcases hS with rfl | hS
  · left
    unfold isDgt at hd
    refine ⟨rfl, ?_, ?_, ?_⟩
    · show ¬ isBlk (hd8 (W ++ R)); unfold isBlk; omega
    · show hd8 (W ++ R) ≠ 43; omega
    · show hd8 (W ++ R) ≠ 45; omega
  · exact Or.inr hS
theorem sgn_ok (b : Bool) : (if b then [45] else ([] : List UInt8)) = [] ∨ ∃ d : UInt8, (d.toNat = 43 ∨ d.toNat = 45) ∧ (if b then [45] else ([] : List UInt8)) = [d] := by
  cases b
  · exact Or.inl rfl
  · exact Or.inr ⟨45, Or.inr rfl, rfl⟩
theorem back_core (b : Bool) {W F R : List UInt8} (hW : allD W) (hne : W ≠ []) (hF : allD F) (hR : ¬ isDgt (hd8 R)) (hR' : hd8 R ≠ 46) :
    numZ (((if b then [45] else []) ++ (W ++ (if F = [] then [] else [46] ++ F))) ++ R) = (if b then -(magOf W F : Int) else (magOf W F : Int)) ∧
    numN (((if b then [45] else []) ++ (W ++ (if F = [] then [] else [46] ++ F))) ++ R) = ((if b then [45] else []) ++ (W ++ (if F = [] then [] else [46] ++ F))).length := by
  have hwl : W.length ≠ 0 := fun h0 => hne (List.eq_nil_of_length_eq_zero h0)
  by_cases hf : F = []
  · subst hf
    have hp := parts_plain (R := R) (sgn_ok b) hW hne hR hR'
    rw [if_pos rfl, List.append_nil, List.append_assoc]
    have hn : W.length + ([] : List UInt8).length ≠ 0 := by simpa using hne
    rw [hp.numZ hn, hp.numN hn]
    (cases b <;> simp) <;> omega
  · have hp := parts_point (R := R) (c := 46) (sgn_ok b) hW hne hF rfl hR
    rw [if_neg hf]
    have e : (if b then [45] else []) ++ (W ++ ([46] ++ F)) ++ R = (if b then [45] else []) ++ (W ++ ([46] ++ (F ++ R))) := by simp [List.append_assoc]
    have hn : W.length + F.length ≠ 0 := by omega
    rw [e, hp.numZ hn, hp.numN hn]
    (cases b <;> simp) <;> omega
/-- A number's text, whatever that is none of a numeral behind it, is read as it was, all of it. -/
theorem text_back {b : Bool} {m : Nat} (h : goodB b m = true) {R : List UInt8} (hR : ¬ isDgt (hd8 R)) (hR' : hd8 R ≠ 46) :
    numZ (textL b m ++ R) = (if b then -(m : Int) else (m : Int)) ∧ numN (textL b m ++ R) = (textL b m).length := by
  have hm : m < topN := by unfold goodB at h; simp at h; exact h.1
  have hmag := text_mag hm 0
  rw [show zer 0 = [] from rfl, List.append_nil] at hmag
  have hc := back_core b (who_dgt m) (who_ne m) (fra_dgt m) hR hR'
  rw [hmag, ← text_eq h] at hc
  exact hc
end Go.Proofs.YtfecnogmjfmghaaDoor
