/- Plain facts on the bytes of numerals: their parts, their value. Nothing of the program. -/
import Derived.Test.YtfecnogmjfmghaaDoorDecM
namespace Go.Proofs.YtfecnogmjfmghaaDoor
set_option linter.unusedSimpArgs false
set_option linter.unusedVariables false
set_option linter.unnecessarySimpa false
open Go.RowKit

def blkU (c : UInt8) : Bool := decide (c.toNat = 32) || (decide (9 ≤ c.toNat) && decide (c.toNat ≤ 13))
def dgtU (c : UInt8) : Bool := decide (48 ≤ c.toNat) && decide (c.toNat ≤ 57)
theorem blkU_iff {c : UInt8} : blkU c = true ↔ c.toNat = 32 ∨ 9 ≤ c.toNat ∧ c.toNat ≤ 13 := by simp [blkU]
theorem dgtU_iff {c : UInt8} : dgtU c = true ↔ 48 ≤ c.toNat ∧ c.toNat ≤ 57 := by simp [dgtU]
theorem blkU_not {c : UInt8} : blkU c = false ↔ ¬ (c.toNat = 32 ∨ 9 ≤ c.toNat ∧ c.toNat ≤ 13) := by rw [← blkU_iff, Bool.not_eq_true]
theorem dgtU_not {c : UInt8} : dgtU c = false ↔ ¬ (48 ≤ c.toNat ∧ c.toNat ≤ 57) := by rw [← dgtU_iff, Bool.not_eq_true]

/-- The part to which a byte belongs behind a part. -/
def nxt (p : Nat) (c : UInt8) : Nat :=
  if p = 0 ∧ blkU c = true then 0
  else if p = 0 ∧ (c.toNat = 43 ∨ c.toNat = 45) then 1
  else if p ≤ 2 then (if dgtU c = true then 2 else if c.toNat = 46 then 3 else 5)
  else if p ≤ 4 then (if dgtU c = true then 4 else 5)
  else 5
theorem nxt_le (p : Nat) (c : UInt8) : nxt p c ≤ 5 := by unfold nxt; (repeat' split) <;> omega

/-- How many bytes each part has. -/
structure Shp where
  b : Nat
  s : Nat
  w : Nat
  p : Nat
  f : Nat
def Shp.z : Shp := ⟨0, 0, 0, 0, 0⟩
def Shp.bump (t : Shp) (q : Nat) : Shp :=
  ⟨if q = 0 then t.b + 1 else t.b, if q = 1 then t.s + 1 else t.s, if q = 2 then t.w + 1 else t.w, if q = 3 then t.p + 1 else t.p, if q = 4 then t.f + 1 else t.f⟩
def Shp.sum (t : Shp) : Nat := t.b + t.s + t.w + t.p + t.f

def runS : Nat → Shp → List UInt8 → Shp
  | _, t, [] => t
  | p, t, c :: l => if nxt p c = 5 then t else runS (nxt p c) (t.bump (nxt p c)) l

theorem Shp.bump_sum (t : Shp) {q : Nat} (h : q < 5) : (t.bump q).sum = t.sum + 1 := by
  unfold Shp.bump Shp.sum
  rcases (by omega : q = 0 ∨ q = 1 ∨ q = 2 ∨ q = 3 ∨ q = 4) with rfl | rfl | rfl | rfl | rfl <;> simp <;> omega
theorem runS_sum : ∀ (l : List UInt8) (p : Nat) (t : Shp), (runS p t l).sum ≤ t.sum + l.length := by
  intro l
  induction l with
  | nil => intro p t; exact Nat.le_refl _
  | cons c l ih =>
    intro p t
    unfold runS
    split
    · exact Nat.le_add_right _ _
    · have h5 := nxt_le p c
      have := ih (nxt p c) (t.bump (nxt p c))
      rw [Shp.bump_sum t (by omega)] at this
      rw [List.length_cons]; omega

/-- The first byte's number; of none: 256. -/
def hd8 : List UInt8 → Nat
  | [] => 256
  | c :: _ => c.toNat
def isBlk (n : Nat) : Prop := n = 32 ∨ 9 ≤ n ∧ n ≤ 13
def isDgt (n : Nat) : Prop := 48 ≤ n ∧ n ≤ 57
def allB (l : List UInt8) : Prop := ∀ c ∈ l, isBlk c.toNat
def allD (l : List UInt8) : Prop := ∀ c ∈ l, isDgt c.toNat

theorem runS_b : ∀ (B : List UInt8), allB B → ∀ (t : Shp) (l : List UInt8), runS 0 t (B ++ l) = runS 0 ⟨t.b + B.length, t.s, t.w, t.p, t.f⟩ l := by
  intro B
  induction B with
  | nil => intro _ t l; rfl
  | cons c B ih =>
    intro h t l
    have hc : blkU c = true := blkU_iff.2 (h c (by simp))
    have e : nxt 0 c = 0 := by unfold nxt; rw [if_pos ⟨rfl, hc⟩]
    rw [List.cons_append, runS, e, if_neg (by omega), ih (fun x hx => h x (by simp [hx]))]
    simp [Shp.bump, Nat.add_assoc, Nat.add_comm, Nat.add_left_comm]

theorem nxt_mid {p : Nat} {c : UInt8} (hp : p ≤ 2) (h0 : p = 0 → ¬ isBlk c.toNat ∧ c.toNat ≠ 43 ∧ c.toNat ≠ 45) : nxt p c = if dgtU c = true then 2 else if c.toNat = 46 then 3 else 5 := by
  unfold nxt
  rw [if_neg (fun h => (h0 h.1).1 (blkU_iff.1 h.2)), if_neg (fun h => by have := h0 h.1; omega), if_pos hp]
theorem nxt_end {p : Nat} {c : UInt8} (hp : p = 3 ∨ p = 4) : nxt p c = if dgtU c = true then 4 else 5 := by
  unfold nxt
  rw [if_neg (by omega), if_neg (by omega), if_neg (by omega), if_pos (by omega)]

theorem runS_f : ∀ (F : List UInt8), allD F → ∀ (q : Nat) (t : Shp) (R : List UInt8), (q = 3 ∨ q = 4) → ¬ isDgt (hd8 R) → runS q t (F ++ R) = ⟨t.b, t.s, t.w, t.p, t.f + F.length⟩ := by
  intro F
  induction F with
  | nil =>
    intro _ q t R hq hR
    cases R with
    | nil => rfl
    | cons c R =>
      have hc : ¬ (dgtU c = true) := fun h => hR (dgtU_iff.1 h)
      show runS q t (c :: R) = _
      rw [runS, nxt_end hq, if_neg hc, if_pos rfl]
      rfl
  | cons c F ih =>
    intro h q t R hq hR
    have hc : dgtU c = true := dgtU_iff.2 (h c (by simp))
    rw [List.cons_append, runS, nxt_end hq, if_pos hc, if_neg (by omega), ih (fun x hx => h x (by simp [hx])) 4 _ R (Or.inr rfl) hR]
    simp [Shp.bump, Nat.add_assoc, Nat.add_comm, Nat.add_left_comm]

/-- The bytes behind a sign. -/
structure Tail (W P F R : List UInt8) : Prop where
  w : allD W
  f : allD F
  p : P = [] ∧ F = [] ∧ ¬ isDgt (hd8 R) ∧ hd8 R ≠ 46 ∨ (∃ c : UInt8, c.toNat = 46 ∧ P = [c]) ∧ ¬ isDgt (hd8 R)

theorem runS_w {P F R : List UInt8} : ∀ (W : List UInt8), Tail W P F R → ∀ (q : Nat) (t : Shp), q ≤ 2 → (q = 0 → ¬ isBlk (hd8 (W ++ (P ++ (F ++ R)))) ∧ hd8 (W ++ (P ++ (F ++ R))) ≠ 43 ∧ hd8 (W ++ (P ++ (F ++ R))) ≠ 45) →
    runS q t (W ++ (P ++ (F ++ R))) = ⟨t.b, t.s, t.w + W.length, t.p + P.length, t.f + F.length⟩ := by
  intro W
  induction W with
  | nil =>
    intro h q t hq h0
    rcases h.p with ⟨rfl, rfl, h1, h2⟩ | ⟨⟨c, hc, rfl⟩, h1⟩
    · cases R with
      | nil => rfl
      | cons d R =>
        have hd : ¬ (dgtU d = true) := fun h => h1 (dgtU_iff.1 h)
        show runS q t (d :: R) = _
        have h2' : ¬ d.toNat = 46 := h2
        rw [runS, nxt_mid hq h0, if_neg hd, if_neg h2', if_pos rfl]
        rfl
    · show runS q t (c :: (F ++ R)) = _
      have hd : ¬ (dgtU c = true) := fun h => by have := dgtU_iff.1 h; omega
      rw [runS, nxt_mid hq h0, if_neg hd, if_pos hc, if_neg (by omega), runS_f F h.f 3 _ R (Or.inl rfl) h1]
      simp [Shp.bump]
  | cons c W ih =>
    intro h q t hq h0
    have hc : dgtU c = true := dgtU_iff.2 (h.w c (by simp))
    rw [List.cons_append, runS, nxt_mid hq h0, if_pos hc, if_neg (by omega), ih ⟨fun x hx => h.w x (by simp [hx]), h.f, h.p⟩ 2 _ (by omega) (fun h => by omega)]
    simp [Shp.bump, Nat.add_assoc, Nat.add_comm, Nat.add_left_comm]

/-- The parts of the numeral that begins bytes (it may have no digits). -/
structure Parts (l B S W P F R : List UInt8) : Prop extends Tail W P F R where
  b : allB B
  s : S = [] ∧ ¬ isBlk (hd8 (W ++ (P ++ (F ++ R)))) ∧ hd8 (W ++ (P ++ (F ++ R))) ≠ 43 ∧ hd8 (W ++ (P ++ (F ++ R))) ≠ 45 ∨ ∃ c : UInt8, (c.toNat = 43 ∨ c.toNat = 45) ∧ S = [c]
  l : l = B ++ (S ++ (W ++ (P ++ (F ++ R))))

theorem Parts.run {l B S W P F R : List UInt8} (h : Parts l B S W P F R) : runS 0 Shp.z l = ⟨B.length, S.length, W.length, P.length, F.length⟩ := by
  rw [h.l, runS_b B h.b]
  rcases h.s with ⟨rfl, h1⟩ | ⟨c, hc, rfl⟩
  · rw [List.nil_append, runS_w W h.toTail 0 _ (by omega) (fun _ => h1)]
    simp [Shp.z]
  · have hb : ¬ (blkU c = true) := fun h => by have := blkU_iff.1 h; omega
    show runS 0 _ (c :: (W ++ (P ++ (F ++ R)))) = _
    have e : nxt 0 c = 1 := by unfold nxt; rw [if_neg (fun h => hb h.2), if_pos ⟨rfl, hc⟩]
    rw [runS, e, if_neg (by omega), runS_w W h.toTail 1 _ (by omega) (fun h => by omega)]
    simp [Shp.z, Shp.bump]

theorem span_ex (f : UInt8 → Bool) : ∀ l : List UInt8, ∃ A r, l = A ++ r ∧ (∀ c ∈ A, f c = true) ∧ (∀ c r', r = c :: r' → f c = false) := by
  intro l
  induction l with
  | nil => exact ⟨[], [], rfl, by simp, by simp⟩
  | cons c l ih =>
    cases hc : f c with
    | false => exact ⟨[], c :: l, rfl, by simp, by rintro c' r' h; cases h; exact hc⟩
    | true =>
      obtain ⟨A, r, h1, h2, h3⟩ := ih
      refine ⟨c :: A, r, by rw [h1]; rfl, ?_, h3⟩
      intro x hx
      rcases List.mem_cons.1 hx with rfl | hx
      · exact hc
      · exact h2 x hx

theorem tail_ex (l : List UInt8) : ∃ W P F R, Tail W P F R ∧ l = W ++ (P ++ (F ++ R)) := by
  obtain ⟨W, r, h1, h2, h3⟩ := span_ex dgtU l
  have hW : allD W := fun c hc => dgtU_iff.1 (h2 c hc)
  cases r with
  | nil => exact ⟨W, [], [], [], ⟨hW, (by intro c hc; cases hc), Or.inl ⟨rfl, rfl, by simp [isDgt, hd8], by simp [hd8]⟩⟩, h1⟩
  | cons d r =>
    have hd := dgtU_not.1 (h3 d r rfl)
    by_cases hp : d.toNat = 46
    · obtain ⟨F, R, g1, g2, g3⟩ := span_ex dgtU r
      refine ⟨W, [d], F, R, ⟨hW, fun c hc => dgtU_iff.1 (g2 c hc), Or.inr ⟨⟨d, hp, rfl⟩, ?_⟩⟩, by rw [h1, g1]; rfl⟩
      cases R with
      | nil => simp [isDgt, hd8]
      | cons e R => exact dgtU_not.1 (g3 e R rfl)
    · exact ⟨W, [], [], d :: r, ⟨hW, (by intro c hc; cases hc), Or.inl ⟨rfl, rfl, hd, hp⟩⟩, h1⟩

theorem parts_ex (l : List UInt8) : ∃ B S W P F R, Parts l B S W P F R := by
  obtain ⟨B, r, h1, h2, h3⟩ := span_ex blkU l
  have hB : allB B := fun c hc => blkU_iff.1 (h2 c hc)
  by_cases hs : hd8 r = 43 ∨ hd8 r = 45
  · cases r with
    | nil => simp [hd8] at hs
    | cons c r =>
      obtain ⟨W, P, F, R, hT, e⟩ := tail_ex r
      exact ⟨B, [c], W, P, F, R, hT, hB, Or.inr ⟨c, hs, rfl⟩, by rw [h1, e]; rfl⟩
  · obtain ⟨W, P, F, R, hT, e⟩ := tail_ex r
    refine ⟨B, [], W, P, F, R, hT, hB, Or.inl ⟨rfl, ?_, ?_, ?_⟩, by rw [h1, e]; rfl⟩
    · rw [← e]
      cases r with
      | nil => simp [isBlk, hd8]
      | cons c r => exact blkU_not.1 (h3 c r rfl)
    · rw [← e]; exact fun h => hs (Or.inl h)
    · rw [← e]; exact fun h => hs (Or.inr h)

/-- The shape of the numeral that begins bytes. -/
def shp (l : List UInt8) : Shp := if (runS 0 Shp.z l).w + (runS 0 Shp.z l).f = 0 then Shp.z else runS 0 Shp.z l
theorem Parts.shp {l B S W P F R : List UInt8} (h : Parts l B S W P F R) : shp l = if W.length + F.length = 0 then Shp.z else ⟨B.length, S.length, W.length, P.length, F.length⟩ := by
  unfold Go.Proofs.YtfecnogmjfmghaaDoor.shp; rw [h.run]
theorem shp_sum (l : List UInt8) : (shp l).sum ≤ l.length := by
  unfold shp
  split
  · simp [Shp.z, Shp.sum]
  · have := runS_sum l 0 Shp.z
    simp only [Shp.sum, Shp.z] at this ⊢; omega

end Go.Proofs.YtfecnogmjfmghaaDoor
