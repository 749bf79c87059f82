/- Plain facts on the value of a numeral's bytes. Nothing of the program. -/
import Derived.Test.YtfecnogmjfmghaaDoorNumA
namespace Go.Proofs.YtfecnogmjfmghaaDoor
set_option linter.unusedSimpArgs false
set_option linter.unusedVariables false
set_option linter.unnecessarySimpa false
open Go.RowKit

/-- The whole number of digits, behind one. -/
def valF (n : Nat) (l : List UInt8) : Nat := l.foldl (fun n c => n * 10 + (c.toNat - 48)) n
def valU (l : List UInt8) : Nat := valF 0 l
theorem valF_eq : ∀ (l : List UInt8) (n : Nat), valF n l = n * 10 ^ l.length + valU l := by
  intro l
  induction l with
  | nil => intro n; simp [valF, valU]
  | cons c l ih =>
    intro n
    show valF (n * 10 + (c.toNat - 48)) l = n * 10 ^ (l.length + 1) + valF (0 * 10 + (c.toNat - 48)) l
    rw [ih, ih (0 * 10 + _), Nat.pow_succ, Nat.add_mul, Nat.mul_assoc n 10, Nat.mul_comm 10, Nat.zero_mul, Nat.zero_add, Nat.add_assoc]
theorem valU_append (a b : List UInt8) : valU (a ++ b) = valU a * 10 ^ b.length + valU b := by
  show valF 0 (a ++ b) = _
  unfold valF
  rw [List.foldl_append]
  exact valF_eq b _
theorem valU_cons (c : UInt8) (l : List UInt8) : valU (c :: l) = (c.toNat - 48) * 10 ^ l.length + valU l := by
  have := valU_append [c] l
  simpa [valU, valF] using this
theorem valU_lt : ∀ (l : List UInt8), allD l → valU l < 10 ^ l.length := by
  intro l
  induction l with
  | nil => intro _; simp [valU, valF]
  | cons c l ih =>
    intro h
    have h1 := ih (fun x hx => h x (by simp [hx]))
    have h2 : c.toNat - 48 ≤ 9 := by have := h c (by simp); unfold isDgt at this; omega
    rw [valU_cons, List.length_cons, Nat.pow_succ]
    have h3 := Nat.mul_le_mul_right (10 ^ l.length) h2
    omega
theorem valU_zeros : ∀ (k : Nat), valU (List.replicate k 48) = 0 := by
  intro k
  induction k with
  | zero => rfl
  | succ k ih => rw [List.replicate_succ, valU_cons, ih]; simp
theorem valU_nil : valU [] = 0 := rfl

/-- Zeros ahead taken away. -/
def lead (l : List UInt8) : List UInt8 := l.dropWhile (· == 48)
theorem lead_ex : ∀ (l : List UInt8), ∃ k, l = List.replicate k 48 ++ lead l ∧ (∀ c r, lead l = c :: r → c.toNat ≠ 48) := by
  intro l
  induction l with
  | nil => exact ⟨0, rfl, by intro c r h; cases h⟩
  | cons c l ih =>
    obtain ⟨k, h1, h2⟩ := ih
    by_cases hc : c = 48
    · subst hc
      have e : lead (48 :: l) = lead l := by simp [lead]
      refine ⟨k + 1, ?_, ?_⟩
      · rw [e, List.replicate_succ, List.cons_append, ← h1]
      · rw [e]; exact h2
    · have e : lead (c :: l) = c :: l := by simp [lead, hc]
      refine ⟨0, by rw [e]; rfl, ?_⟩
      rw [e]
      rintro c' r h
      cases h
      intro h48
      exact hc (UInt8.toNat_inj.1 h48)
theorem valU_lead (l : List UInt8) : valU (lead l) = valU l := by
  obtain ⟨k, h1, _⟩ := lead_ex l
  conv => rhs; rw [h1, valU_append, valU_zeros, Nat.zero_mul, Nat.zero_add]
theorem lead_mem {l : List UInt8} {c : UInt8} (h : c ∈ lead l) : c ∈ l := by
  obtain ⟨k, h1, _⟩ := lead_ex l
  rw [h1]; exact List.mem_append.2 (Or.inr h)
theorem lead_le (l : List UInt8) : (lead l).length ≤ l.length := by
  obtain ⟨k, h1, _⟩ := lead_ex l
  have := congrArg List.length h1
  rw [List.length_append] at this
  omega
/-- What has no zero ahead is at least as great as its length says. -/
theorem lead_ge {l : List UInt8} (h : allD l) (hne : lead l ≠ []) : 10 ^ ((lead l).length - 1) ≤ valU l := by
  obtain ⟨k, h1, h2⟩ := lead_ex l
  rw [← valU_lead]
  match hl : lead l, hne with
  | c :: r, _ =>
    have hc := h2 c r hl
    have hd : isDgt c.toNat := h c (lead_mem (hl ▸ List.mem_cons_self))
    unfold isDgt at hd
    rw [valU_cons]
    have h3 : 1 ≤ c.toNat - 48 := by omega
    have h4 := Nat.mul_le_mul_right (10 ^ r.length) h3
    simp only [List.length_cons, Nat.add_sub_cancel]
    omega
theorem lead_len {l : List UInt8} (h : allD l) (k : Nat) : (lead l).length ≤ k ↔ valU l < 10 ^ k := by
  constructor
  · intro hk
    have h1 : allD (lead l) := fun c hc => h c (lead_mem hc)
    have h2 := valU_lt _ h1
    rw [valU_lead] at h2
    exact Nat.lt_of_lt_of_le h2 (Nat.pow_le_pow_right (by omega) hk)
  · intro hv
    by_cases hne : lead l = []
    · rw [hne]; simp
    · have := lead_ge h hne
      have h3 : 10 ^ ((lead l).length - 1) < 10 ^ k := by omega
      have := (Nat.pow_lt_pow_iff_right (by omega : 1 < 10)).1 h3
      omega

/-- Six places of a fraction. -/
def six (l : List UInt8) : List UInt8 := (l ++ List.replicate 6 48).take 6
theorem six_len (l : List UInt8) : (six l).length = 6 := by simp [six]
theorem six_dgt {l : List UInt8} (h : allD l) : allD (six l) := by
  intro c hc
  rcases List.mem_append.1 (List.mem_of_mem_take hc) with h1 | h1
  · exact h c h1
  · rw [List.mem_replicate] at h1
    rw [h1.2]; unfold isDgt; decide
theorem six_lt {l : List UInt8} (h : allD l) : valU (six l) < 1000000 := by
  have := valU_lt _ (six_dgt h)
  rw [six_len] at this
  exact this

def wholeL (l : List UInt8) : List UInt8 := (l.drop ((shp l).b + (shp l).s)).take (shp l).w
def fracL (l : List UInt8) : List UInt8 := (l.drop ((shp l).b + (shp l).s + (shp l).w + (shp l).p)).take (shp l).f
def signL (l : List UInt8) : List UInt8 := (l.drop (shp l).b).take (shp l).s
/-- How many millionths, how many bytes, and the number, of the numeral that begins bytes. -/
def magOf (W F : List UInt8) : Nat := valU W * 1000000 + valU (six F)
def magN (l : List UInt8) : Nat := magOf (wholeL l) (fracL l)
def numN (l : List UInt8) : Nat := (shp l).sum
def numZ (l : List UInt8) : Int := if signL l = [45] then -(magN l : Int) else (magN l : Int)
def looksB (l : List UInt8) : Bool := decide (numN l ≠ 0) && (l.drop (numN l)).all blkU

theorem magOf_lt {W F : List UInt8} (hW : allD W) (hF : allD F) : magOf W F < topN ↔ (lead W).length ≤ 30 := by
  rw [lead_len hW, topN_eq]
  unfold magOf
  have := six_lt hF
  have e : (10 : Nat) ^ 30 = 1000000000000000000000000000000 := by decide
  rw [e]
  omega

theorem Parts.whole {l B S W P F R : List UInt8} (h : Parts l B S W P F R) (hn : W.length + F.length ≠ 0) : wholeL l = W := by
  unfold wholeL
  rw [h.shp, if_neg hn, h.l]
  simp [List.drop_append, List.take_append]
theorem Parts.frac {l B S W P F R : List UInt8} (h : Parts l B S W P F R) (hn : W.length + F.length ≠ 0) : fracL l = F := by
  unfold fracL
  rw [h.shp, if_neg hn, h.l]
  have e : B ++ (S ++ (W ++ (P ++ (F ++ R)))) = (B ++ S ++ W ++ P) ++ (F ++ R) := by simp
  rw [e, List.drop_left' (by simp [Nat.add_assoc]), List.take_left' rfl]
theorem Parts.sign {l B S W P F R : List UInt8} (h : Parts l B S W P F R) (hn : W.length + F.length ≠ 0) : signL l = S := by
  unfold signL
  rw [h.shp, if_neg hn, h.l]
  simp [List.drop_append, List.take_append]
theorem Parts.numN {l B S W P F R : List UInt8} (h : Parts l B S W P F R) (hn : W.length + F.length ≠ 0) : numN l = B.length + S.length + W.length + P.length + F.length := by
  unfold Go.Proofs.YtfecnogmjfmghaaDoor.numN
  rw [h.shp, if_neg hn]
  rfl
theorem Parts.numZ {l B S W P F R : List UInt8} (h : Parts l B S W P F R) (hn : W.length + F.length ≠ 0) : numZ l = if S = [45] then -(magOf W F : Int) else (magOf W F : Int) := by
  unfold Go.Proofs.YtfecnogmjfmghaaDoor.numZ magN
  rw [h.sign hn, h.whole hn, h.frac hn]
theorem shp_none {l B S W P F R : List UInt8} (h : Parts l B S W P F R) (hn : W.length + F.length = 0) : shp l = Shp.z := by rw [h.shp, if_pos hn]
theorem numZ_none {l : List UInt8} (h : shp l = Shp.z) : numZ l = 0 := by
  unfold numZ magN wholeL fracL
  rw [h]
  simp [Shp.z, magOf, valU, valF, six]
theorem numN_none {l : List UInt8} (h : shp l = Shp.z) : numN l = 0 := by unfold numN; rw [h]; rfl
theorem whole_dgt (l : List UInt8) : allD (wholeL l) := by
  obtain ⟨B, S, W, P, F, R, h⟩ := parts_ex l
  by_cases hn : W.length + F.length = 0
  · unfold wholeL; rw [shp_none h hn]; intro c hc; simp [Shp.z] at hc
  · rw [h.whole hn]; exact h.w
theorem frac_dgt (l : List UInt8) : allD (fracL l) := by
  obtain ⟨B, S, W, P, F, R, h⟩ := parts_ex l
  by_cases hn : W.length + F.length = 0
  · unfold fracL; rw [shp_none h hn]; intro c hc; simp [Shp.z] at hc
  · rw [h.frac hn]; exact h.f
theorem numN_le (l : List UInt8) : numN l ≤ l.length := shp_sum l

end Go.Proofs.YtfecnogmjfmghaaDoor
