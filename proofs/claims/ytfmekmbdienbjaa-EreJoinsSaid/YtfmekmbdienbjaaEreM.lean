/- Layer 4: how a reading goes on: its steps turned about, and that it advances. -/
import Derived.Test.YtfmekmbdienbjaaEreF
namespace Go.Proofs.Ytfmekmbdienbjaa
set_option linter.unusedSimpArgs false
set_option linter.unusedVariables false
set_option linter.unnecessarySimpa false
open Go.RowKit

theorem begB_gt {l : List UInt8} {k : Nat} : k < begB l k := by unfold begB; split <;> omega
theorem plainA_adv {l : List UInt8} {k : Nat} (hk : k < l.length) {t : PT} {n : Nat} (h : plainA l k = .ok t n) : k < n ∧ n ≤ l.length := by
  unfold plainA at h
  split at h
  · cases h
  · split at h
    · split at h
      · cases h
      · injection h with _ h; omega
    · split at h
      · injection h with _ h; omega
      · split at h
        · injection h with _ h; omega
        · split at h
          · injection h with _ h; omega
          · injection h with _ h; omega
theorem endB_lt {l : List UInt8} {k : Nat} (h : endB l k = false) : k < l.length := by
  unfold endB at h
  simp only [Bool.or_eq_false_iff, decide_eq_false_iff_not] at h
  omega
def AdvM (l : List UInt8) (n : Nat) : NT → Prop
  | .exp k _ _ => k ≤ l.length → k ≤ n ∧ n ≤ l.length
  | .bra k _ _ => k ≤ l.length → k ≤ n ∧ n ≤ l.length
  | .pie k _ _ _ => k ≤ l.length → k ≤ n ∧ n ≤ l.length
  | .atm k _ => k < n ∧ n ≤ l.length
theorem runE_adv {l : List UInt8} {S : NT} {R : ER} (h : RunE l S R) : ∀ t n, R = .ok t n → AdvM l n S := by
  induction h with
  | expBad => intro t n e; cases e
  | expEnd k o acc t n h1 h2 ih => intro t' n' e hk; injection e with _ e; subst e; exact ih _ _ rfl hk
  | expOr k o acc t n R h1 h2 h3 ih1 ih2 =>
    intro t' n' e hk
    have a := ih1 _ _ rfl hk
    have b := ih2 _ _ e (isL_lt h2).1
    exact ⟨by omega, b.2⟩
  | braEnd k o acc h1 => intro t n e hk; injection e with _ e; subst e; exact ⟨Nat.le_refl _, hk⟩
  | braBad => intro t n e; cases e
  | braSgn => intro t n e; cases e
  | braOn k o acc t t' n n' R h1 h2 h3 h4 ih1 ih2 ih3 =>
    intro t9 n9 e hk
    have a := ih1 _ _ rfl
    have b := ih2 _ _ rfl a.2
    have c := ih3 _ _ e b.2
    exact ⟨by have := a.1; have := b.1; have := c.1; omega, c.2⟩
  | pieEnd k o t s h1 => intro t n e hk; injection e with _ e; subst e; exact ⟨Nat.le_refl _, hk⟩
  | pieBad => intro t n e; cases e
  | pieDeep => intro t n e; cases e
  | pieOn k o t s a b n R h1 h2 h3 ih =>
    intro t9 n9 e hk
    have q := signL_some h1
    have c := ih _ _ e q.2.1
    exact ⟨by omega, c.2⟩
  | atmDeep => intro t n e; cases e
  | atmBad => intro t n e; cases e
  | atmOpen => intro t n e; cases e
  | atmOk k o t n h1 h2 h3 h4 ih =>
    intro t9 n9 e
    injection e with _ e
    subst e
    have a := ih _ _ rfl (isL_lt h1).1
    have b := (isL_lt h4).1
    exact ⟨by omega, by omega⟩
  | atmSet k o R h1 h2 =>
    intro t n e
    cases R with
    | ok p m =>
      unfold ofMR at e
      injection e with _ e
      subst e
      have a := runB_lt h2 _ _ rfl
      have b := @begB_gt l k
      exact ⟨by omega, by omega⟩
    | bad a c => cases e
  | atmOne k o h1 h2 h3 => intro t n e; exact plainA_adv h1 e
/-- A piece: an atom and its signs. -/
def PieceR (l : List UInt8) (k o : Nat) (R : ER) : Prop := (∃ a c, RunE l (.atm k o) (.bad a c) ∧ R = .bad a c) ∨ (∃ t m, RunE l (.atm k o) (.ok t m) ∧ RunE l (.pie m o t 0) R)
theorem pieceR_adv {l : List UInt8} {k o : Nat} {t : PT} {n : Nat} (h : PieceR l k o (.ok t n)) : k < n ∧ n ≤ l.length := by
  rcases h with ⟨a, c, _, e⟩ | ⟨t', m, h1, h2⟩
  · cases e
  · have a := runE_adv h1 _ _ rfl
    have b := runE_adv h2 _ _ rfl a.2
    exact ⟨by have := a.1; have := b.1; omega, b.2⟩
theorem bra_inv {l : List UInt8} {k o : Nat} {acc : List PT} {R : ER} (h : RunE l (.bra k o acc) R) :
    (endB l k = true ∧ R = .ok (together 2 acc) k) ∨ (endB l k = false ∧ ((∃ a c, PieceR l k o (.bad a c) ∧ R = .bad a c) ∨ (∃ t n, PieceR l k o (.ok t n) ∧ RunE l (.bra n o (acc ++ [t])) R))) := by
  cases h with
  | braEnd _ _ _ h1 => exact Or.inl ⟨h1, rfl⟩
  | braBad _ _ _ a c h1 h2 => exact Or.inr ⟨h1, Or.inl ⟨a, c, Or.inl ⟨a, c, h2, rfl⟩, rfl⟩⟩
  | braSgn _ _ _ t n a c h1 h2 h3 => exact Or.inr ⟨h1, Or.inl ⟨a, c, Or.inr ⟨t, n, h2, h3⟩, rfl⟩⟩
  | braOn _ _ _ t t' n n' _ h1 h2 h3 h4 => exact Or.inr ⟨h1, Or.inr ⟨t', n', Or.inr ⟨t, n, h2, h3⟩, h4⟩⟩
theorem exp_inv {l : List UInt8} {k o : Nat} {acc : List PT} {R : ER} (h : RunE l (.exp k o acc) R) :
    (∃ a c, RunE l (.bra k o []) (.bad a c) ∧ R = .bad a c) ∨ (∃ t n, RunE l (.bra k o []) (.ok t n) ∧ ((isL l n 124 = false ∧ R = .ok (together 3 (acc ++ [t])) n) ∨ (isL l n 124 = true ∧ RunE l (.exp (n + 1) o (acc ++ [t])) R))) := by
  cases h with
  | expBad _ _ _ a c h1 => exact Or.inl ⟨a, c, h1, rfl⟩
  | expEnd _ _ _ t n h1 h2 => exact Or.inr ⟨t, n, h1, Or.inl ⟨h2, rfl⟩⟩
  | expOr _ _ _ t n _ h1 h2 h3 => exact Or.inr ⟨t, n, h1, Or.inr ⟨h2, h3⟩⟩
/-- Where the reader stands, told by its memory. -/
def atOf (w : World) (rb : Nat) : Nat := match w.cell? ⟨rb, 1, none⟩ with
  | some v => (intOf v).toNat
  | none => 0
theorem atOf_rd {w : World} {rb : Nat} {v : Value} {k o : Nat} (h : RD w rb v k o) : atOf w rb = k := by
  unfold atOf
  have e : w.cell? ⟨rb, 1, none⟩ = some (.int .i64 (k : Int)) := h.cell 1
  rw [e]; simp [intOf]
end Go.Proofs.Ytfmekmbdienbjaa
