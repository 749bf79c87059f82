/- Plain facts: the places of a numeral's parts. Nothing of the program. -/
import Derived.Test.YtfecnogmjfmghaaDoorNumS
namespace Go.Proofs.YtfecnogmjfmghaaDoor
set_option linter.unusedSimpArgs false
set_option linter.unusedVariables false
set_option linter.unnecessarySimpa false
open Go.RowKit

theorem mid_fact {l A M C : List UInt8} (e : l = A ++ (M ++ C)) {j : Nat} (hj : j < M.length) : A.length + j < l.length ∧ l.getD (A.length + j) 0 = M.getD j 0 := by
  subst e
  refine ⟨by rw [List.length_append, List.length_append]; omega, ?_⟩
  rw [List.getD_eq_getElem?_getD, List.getElem?_append_right (by omega), Nat.add_sub_cancel_left, List.getElem?_append_left hj, List.getD_eq_getElem?_getD]
theorem end_fact {l A C : List UInt8} (e : l = A ++ C) (h : A.length < l.length) : (l.getD A.length 0).toNat = hd8 C := by
  subst e
  cases C with
  | nil => simp at h
  | cons c C => rw [List.getD_eq_getElem?_getD, List.getElem?_append_right (Nat.le_refl _), Nat.sub_self]; rfl
/-- What the parts of a numeral say of the bytes at their places. -/
structure Places (l W F : List UInt8) (nb ns nw np : Nat) (neg pt : Bool) : Prop where
  le : np + F.length ≤ l.length
  lw : nw = ns + W.length
  bs : nb ≤ ns
  b : ∀ k, k < nb → blkU (l.getD k 0) = true
  b' : nb < l.length → blkU (l.getD nb 0) = false
  s : ns = nb ∧ neg = false ∧ (nb < l.length → (l.getD nb 0).toNat ≠ 43 ∧ (l.getD nb 0).toNat ≠ 45) ∨ ns = nb + 1 ∧ nb < l.length ∧ ((l.getD nb 0).toNat = 43 ∧ neg = false ∨ (l.getD nb 0).toNat = 45 ∧ neg = true)
  w : ∀ j, j < W.length → ns + j < l.length ∧ l.getD (ns + j) 0 = W.getD j 0
  w' : nw < l.length → dgtU (l.getD nw 0) = false
  p : pt = false ∧ np = nw ∧ F = [] ∧ (nw < l.length → (l.getD nw 0).toNat ≠ 46) ∨ pt = true ∧ np = nw + 1 ∧ nw < l.length ∧ (l.getD nw 0).toNat = 46
  f : ∀ j, j < F.length → np + j < l.length ∧ l.getD (np + j) 0 = F.getD j 0
  f' : pt = true → np + F.length < l.length → dgtU (l.getD (np + F.length) 0) = false
  dw : allD W
  df : allD F
theorem not_dgt {l A C : List UInt8} (e : l = A ++ C) (h : ¬ isDgt (hd8 C)) (hk : A.length < l.length) : dgtU (l.getD A.length 0) = false := by
  rw [dgtU_not, end_fact e hk]; exact h
theorem Parts.places {l B S W P F R : List UInt8} (h : Parts l B S W P F R) :
    Places l W F B.length (B.length + S.length) (B.length + S.length + W.length) (B.length + S.length + W.length + P.length) (decide (S = [45])) (decide (P.length = 1)) := by
  have e1 : l = B ++ (S ++ (W ++ (P ++ (F ++ R)))) := h.l
  have e2 : l = (B ++ S) ++ (W ++ (P ++ (F ++ R))) := by rw [e1]; simp
  have e3 : l = (B ++ S ++ W) ++ (P ++ (F ++ R)) := by rw [e1]; simp
  have e4 : l = (B ++ S ++ W ++ P) ++ (F ++ R) := by rw [e1]; simp
  have e5 : l = (B ++ S ++ W ++ P ++ F) ++ R := by rw [e1]; simp
  have l2 : (B ++ S).length = B.length + S.length := List.length_append
  have l3 : (B ++ S ++ W).length = B.length + S.length + W.length := by simp [Nat.add_assoc]
  have l4 : (B ++ S ++ W ++ P).length = B.length + S.length + W.length + P.length := by simp [Nat.add_assoc]
  have l5 : (B ++ S ++ W ++ P ++ F).length = B.length + S.length + W.length + P.length + F.length := by simp [Nat.add_assoc]
  have ll : l.length = B.length + S.length + W.length + P.length + F.length + R.length := by rw [e5, List.length_append, l5]
  refine ⟨by omega, rfl, by omega, ?_, ?_, ?_, ?_, ?_, ?_, ?_, ?_, h.w, h.f⟩
  · intro k hk
    have := mid_fact (A := []) (M := B) (C := S ++ (W ++ (P ++ (F ++ R)))) e1 hk
    simp only [List.length_nil, Nat.zero_add] at this
    rw [this.2, blkU_iff]
    have hm : B.getD k 0 ∈ B := by rw [List.getD_eq_getElem?_getD, List.getElem?_eq_getElem hk]; exact List.getElem_mem hk
    exact h.b _ hm
  · intro hk
    rw [blkU_not, end_fact e1 hk]
    rcases h.s with ⟨rfl, h2, _⟩ | ⟨c, hc, rfl⟩
    · exact h2
    · show ¬ (c.toNat = 32 ∨ 9 ≤ c.toNat ∧ c.toNat ≤ 13); omega
  · rcases h.s with ⟨rfl, h2, h3, h4⟩ | ⟨c, hc, rfl⟩
    · left
      refine ⟨rfl, rfl, fun hk => ?_⟩
      rw [end_fact e1 hk]; exact ⟨h3, h4⟩
    · right
      have hk : B.length < l.length := by simp at ll; omega
      refine ⟨rfl, hk, ?_⟩
      rw [end_fact e1 hk]
      show c.toNat = 43 ∧ _ ∨ c.toNat = 45 ∧ _
      rcases hc with hc | hc
      · left; refine ⟨hc, ?_⟩
        rw [decide_eq_false_iff_not]; intro he; have := List.cons.inj he; rw [this.1] at hc; exact absurd hc (by decide)
      · right; refine ⟨hc, ?_⟩
        rw [decide_eq_true_iff]; rw [show c = 45 from UInt8.toNat_inj.1 hc]
  · intro j hj
    have := mid_fact (A := B ++ S) e2 hj
    rw [l2] at this
    exact this
  · intro hk
    rw [← l3] at hk ⊢
    rcases h.p with ⟨rfl, rfl, h3, h4⟩ | ⟨⟨c, hc, rfl⟩, h3⟩
    · exact not_dgt e3 h3 hk
    · refine not_dgt e3 ?_ hk
      show ¬ isDgt c.toNat; unfold isDgt; omega
  · rcases h.p with ⟨rfl, rfl, h3, h4⟩ | ⟨⟨c, hc, rfl⟩, h3⟩
    · left
      refine ⟨rfl, rfl, rfl, fun hk => ?_⟩
      rw [← l3] at hk ⊢
      rw [end_fact e3 hk]; exact h4
    · right
      have hk : B.length + S.length + W.length < l.length := by simp at ll; omega
      refine ⟨rfl, rfl, hk, ?_⟩
      rw [← l3] at hk ⊢
      rw [end_fact e3 hk]; exact hc
  · intro j hj
    have := mid_fact (A := B ++ S ++ W ++ P) e4 hj
    rw [l4] at this
    exact this
  · intro hp hk
    rw [← l5] at hk ⊢
    rcases h.p with ⟨rfl, _⟩ | ⟨_, h3⟩
    · cases hp
    · exact not_dgt e5 h3 hk

/-- The digits of a number's parts, the lowest first. -/
def dgN (c : UInt8) : Nat := c.toNat - 48
def lsf (l : List UInt8) : List Nat := (l.map dgN).reverse
theorem lsf_app (a b : List UInt8) : lsf (a ++ b) = lsf b ++ lsf a := by unfold lsf; simp
theorem lsf_len (l : List UInt8) : (lsf l).length = l.length := by unfold lsf; simp
theorem lsf_digs {l : List UInt8} (h : allD l) : Digs (lsf l) := by
  intro d hd
  unfold lsf at hd
  rw [List.mem_reverse, List.mem_map] at hd
  obtain ⟨c, hc, rfl⟩ := hd
  have := h c hc
  unfold isDgt at this; unfold dgN; omega
theorem lsf_val : ∀ (l : List UInt8), dval (lsf l) = valU l := by
  intro l
  induction l with
  | nil => rfl
  | cons c l ih =>
    rw [show c :: l = [c] ++ l from rfl, lsf_app, dval_append, ih, lsf_len, valU_append]
    have e : dval (lsf [c]) = c.toNat - 48 := by simp [lsf, dval, dgN]
    have e' : valU [c] = c.toNat - 48 := by simp [valU, valF]
    rw [e, e', Nat.mul_comm]; omega
theorem mag_lsf (W F : List UInt8) : dval (lsf (six F) ++ lsf W) = magOf W F := by
  rw [← lsf_app, lsf_val, valU_append, six_len]; rfl
end Go.Proofs.YtfecnogmjfmghaaDoor
