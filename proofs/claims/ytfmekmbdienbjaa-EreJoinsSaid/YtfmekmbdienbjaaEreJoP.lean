/- Any bytes are read in one way; how long lists grow; an expression in a context; two with a bar between, one in brackets. -/
import Derived.Test.YtfmekmbdienbjaaEreM
import Derived.Lib.IndexMore
import Derived.Test.YtfmekmbdienbjaaEreS
namespace Go.Proofs.Ytfmekmbdienbjaa
set_option linter.unusedSimpArgs false
set_option linter.unusedVariables false
set_option linter.unnecessarySimpa false
open Go.RowKit

theorem pie_ex (l : List UInt8) : ∀ (f k o : Nat) (t : PT) (s : Nat), 8 - s ≤ f → s ≤ 8 → ∃ R, RunE l (.pie k o t s) R := by
  intro f
  induction f with
  | zero =>
    intro k o t s h1 h2
    obtain rfl : s = 8 := by omega
    cases hs : signL l k with
    | none => exact ⟨_, .pieEnd k o t 8 hs⟩
    | bad => exact ⟨_, .pieBad k o t 8 hs⟩
    | some a b n => exact ⟨_, .pieDeep k o t a b n hs⟩
  | succ f ih =>
    intro k o t s h1 h2
    cases hs : signL l k with
    | none => exact ⟨_, .pieEnd k o t s hs⟩
    | bad => exact ⟨_, .pieBad k o t s hs⟩
    | some a b n =>
      by_cases h8 : s = 8
      · subst h8; exact ⟨_, .pieDeep k o t a b n hs⟩
      · obtain ⟨R, hR⟩ := ih n o (.node 4 nonP a b [t]) (s + 1) (by omega) (by omega)
        exact ⟨R, .pieOn k o t s a b n R hs h8 hR⟩
theorem runE_exs (l : List UInt8) : ∀ (d k : Nat), k ≤ l.length → l.length - k ≤ d → ∀ (o : Nat) (acc : List PT), (∃ R, RunE l (.exp k o acc) R) ∧ (∃ R, RunE l (.bra k o acc) R) := by
  intro d
  induction d using Nat.strongRecOn with
  | _ d IH =>
    intro k hk hd o acc
    have ih : ∀ k', k' ≤ l.length → k < k' → ∀ (o : Nat) (acc : List PT), (∃ R, RunE l (.exp k' o acc) R) ∧ (∃ R, RunE l (.bra k' o acc) R) := by
      intro k' h1 h2
      exact IH (l.length - k') (by omega) k' h1 (Nat.le_refl _)
    have atm : k < l.length → ∃ R, RunE l (.atm k o) R := by
      intro hlt
      by_cases h40 : isL l k 40 = true
      · by_cases h64 : o = 64
        · subst h64; exact ⟨_, .atmDeep k h40⟩
        · obtain ⟨⟨R, hR⟩, _⟩ := ih (k + 1) hlt (by omega) (o + 1) []
          cases R with
          | bad a c => exact ⟨_, .atmBad k o a c h40 h64 hR⟩
          | ok t n =>
            by_cases h41 : isL l n 41 = true
            · exact ⟨_, .atmOk k o t n h40 h64 hR h41⟩
            · exact ⟨_, .atmOpen k o t n h40 h64 hR (by simpa using h41)⟩
      · by_cases h91 : isL l k 91 = true
        · obtain ⟨R, hR⟩ := runB_ex l _ (begB l k) (Nat.le_refl _) (begB_le h91) true nonP
          exact ⟨_, .atmSet k o R h91 hR⟩
        · exact ⟨_, .atmOne k o hlt (by simpa using h40) (by simpa using h91)⟩
    have bra : ∀ acc, ∃ R, RunE l (.bra k o acc) R := by
      intro acc
      cases he : endB l k with
      | true => exact ⟨_, .braEnd k o acc he⟩
      | false =>
        obtain ⟨R, hR⟩ := atm (endB_lt he)
        cases R with
        | bad a c => exact ⟨_, .braBad k o acc a c he hR⟩
        | ok t n =>
          obtain ⟨R2, hR2⟩ := pie_ex l 8 n o t 0 (by omega) (by omega)
          cases R2 with
          | bad a c => exact ⟨_, .braSgn k o acc t n a c he hR hR2⟩
          | ok t' n' =>
            have a := pieceR_adv (Or.inr ⟨t, n, hR, hR2⟩)
            obtain ⟨_, R3, hR3⟩ := ih n' a.2 a.1 o (acc ++ [t'])
            exact ⟨_, .braOn k o acc t t' n n' R3 he hR hR2 hR3⟩
    refine ⟨?_, bra acc⟩
    obtain ⟨R, hR⟩ := bra []
    cases R with
    | bad a c => exact ⟨_, .expBad k o acc a c hR⟩
    | ok t n =>
      by_cases h : isL l n 124 = true
      · have a := runE_adv hR _ _ rfl hk
        obtain ⟨⟨R2, hR2⟩, _⟩ := ih (n + 1) (isL_lt h).1 (by have := a.1; omega) o (acc ++ [t])
        exact ⟨_, .expOr k o acc t n R2 hR h hR2⟩
      · exact ⟨_, .expEnd k o acc t n hR (by simpa using h)⟩
theorem runE_ex (l : List UInt8) : ∃ R, RunE l (.exp 0 0 []) R := (runE_exs l _ 0 (Nat.zero_le _) (Nat.le_refl _) 0 []).1

def lenT : PT → Nat
  | .node _ _ _ _ l => l.length
def LenM (l : List UInt8) (t : PT) (n : Nat) : NT → Prop
  | .exp k _ acc => k ≤ l.length → acc.length ≤ k → lenT t ≤ n + 1
  | .bra k _ acc => k ≤ l.length → acc.length ≤ k → (∀ x ∈ acc, lenT x ≤ k + 1) → lenT t ≤ n + 1
  | .pie k _ t' _ => k ≤ l.length → lenT t' ≤ k + 1 → lenT t ≤ n + 1
  | .atm _ _ => lenT t ≤ n + 1
theorem plainA_len {l : List UInt8} {k : Nat} {t : PT} {n : Nat} (h : plainA l k = .ok t n) : lenT t = 0 := by
  unfold plainA at h
  split at h
  · cases h
  · split at h
    · split at h
      · cases h
      · injection h with h _; subst h; rfl
    · split at h
      · injection h with h _; subst h; rfl
      · split at h
        · injection h with h _; subst h; rfl
        · split at h
          · injection h with h _; subst h; rfl
          · injection h with h _; subst h; rfl
theorem runE_len {l : List UInt8} {S : NT} {R : ER} (h : RunE l S R) : ∀ t n, R = .ok t n → LenM l t n S := by
  induction h with
  | expBad => intro t n e; cases e
  | expEnd k o acc t n h1 h2 ih =>
    intro t' n' e hk ha
    injection e with e1 e2
    subst e1 e2
    have b := ih _ _ rfl hk (Nat.zero_le _) (fun x hx => by cases hx)
    have a := runE_adv h1 _ _ rfl hk
    rcases acc with _ | ⟨x, acc⟩
    · exact b
    · have e : ∀ y, (y : List PT) = (x :: acc) ++ [t] → lenT (together 3 y) ≤ n + 1 := by
        intro y hy
        rcases y with _ | ⟨y1, _ | ⟨y2, r⟩⟩
        · simp at hy
        · simp at hy
        · have : (y1 :: y2 :: r).length = acc.length + 1 + 1 := by rw [hy]; simp
          show (y1 :: y2 :: r).length ≤ n + 1
          have := a.1
          simp only [List.length_cons] at ha
          omega
      exact e _ rfl
  | expOr k o acc t n R h1 h2 h3 ih1 ih2 =>
    intro t' n' e hk ha
    have a := runE_adv h1 _ _ rfl hk
    exact ih2 _ _ e (isL_lt h2).1 (by have := a.1; simp only [List.length_append, List.length_cons, List.length_nil]; omega)
  | braEnd k o acc h1 =>
    intro t n e hk ha hx
    injection e with e1 e2
    subst e1 e2
    rcases acc with _ | ⟨y1, _ | ⟨y2, r⟩⟩
    · show 0 ≤ _; omega
    · exact hx _ (List.mem_cons_self ..)
    · show (y1 :: y2 :: r).length ≤ _; omega
  | braBad => intro t n e; cases e
  | braSgn => intro t n e; cases e
  | braOn k o acc t t' n n' R h1 h2 h3 h4 ih1 ih2 ih3 =>
    intro t9 n9 e hk ha hx
    have a := runE_adv h2 _ _ rfl
    have b := runE_adv h3 _ _ rfl a.2
    have c1 := ih1 _ _ rfl
    have c2 := ih2 _ _ rfl a.2 c1
    have := a.1
    have := b.1
    refine ih3 _ _ e b.2 (by simp only [List.length_append, List.length_cons, List.length_nil]; omega) ?_
    intro x hx9
    rcases List.mem_append.1 hx9 with h | h
    · have := hx x h; omega
    · obtain rfl := List.mem_singleton.1 h
      exact c2
  | pieEnd k o t s h1 => intro t' n e hk ha; injection e with e1 e2; subst e1 e2; exact ha
  | pieBad => intro t n e; cases e
  | pieDeep => intro t n e; cases e
  | pieOn k o t s a b n R h1 h2 h3 ih =>
    intro t9 n9 e hk ha
    exact ih _ _ e (signL_some h1).2.1 (by show 1 ≤ _; omega)
  | atmDeep => intro t n e; cases e
  | atmBad => intro t n e; cases e
  | atmOpen => intro t n e; cases e
  | atmOk k o t n h1 h2 h3 h4 ih =>
    intro t9 n9 e
    injection e with e1 e2
    subst e1 e2
    have := ih _ _ rfl (isL_lt h1).1 (Nat.zero_le _)
    show lenT t ≤ _
    omega
  | atmSet k o R h1 h2 =>
    intro t n e
    cases R with
    | ok p m =>
      unfold ofMR at e
      injection e with e1 e2
      subst e1
      show 0 ≤ _
      omega
    | bad a c => cases e
  | atmOne k o h1 h2 h3 =>
    intro t n e
    have := plainA_len e
    show lenT t ≤ _
    omega
theorem runE_top_len {l : List UInt8} {k : Nat} {p : Nat → Bool} {x y : Int} {L : List PT} {n : Nat} (h : RunE l (.exp 0 0 []) (.ok (.node k p x y L) n)) : L.length ≤ n + 1 := runE_len h _ _ rfl (Nat.zero_le _) (Nat.le_refl _)

/-- a stands in L behind P bytes; what follows is nothing, a bar, or a bracket that closes. -/
structure Ctx (a L : List UInt8) (P : Nat) : Prop where
  eq : ∃ pre suf, L = pre ++ (a ++ suf) ∧ pre.length = P
  stop : ∀ d : UInt8, d ≠ 124 → d ≠ 41 → isL L (P + a.length) d = false
  fin : endB L (P + a.length) = true
theorem Ctx.len {a L : List UInt8} {P : Nat} (h : Ctx a L P) : P + a.length ≤ L.length := by
  obtain ⟨pre, suf, rfl, rfl⟩ := h.eq
  simp
theorem Ctx.get {a L : List UInt8} {P k : Nat} (h : Ctx a L P) (hk : k < a.length) : L.getD (P + k) 0 = a.getD k 0 := by
  obtain ⟨pre, suf, rfl, rfl⟩ := h.eq
  rw [List.getD_eq_getElem?_getD, List.getElem?_append_right (by omega), Nat.add_sub_cancel_left, List.getElem?_append_left hk, ← List.getD_eq_getElem?_getD]
theorem Ctx.isL {a L : List UInt8} {P k : Nat} (h : Ctx a L P) (hk : k < a.length) (d : UInt8) : isL L (P + k) d = isL a k d := by
  have := h.len
  unfold Proofs.Ytfmekmbdienbjaa.isL
  rw [h.get hk, decide_eq_true hk, decide_eq_true (by omega)]
theorem Ctx.isL' {a L : List UInt8} {P k : Nat} (h : Ctx a L P) (hk : k ≤ a.length) {d : UInt8} (h1 : d ≠ 124) (h2 : d ≠ 41) : Proofs.Ytfmekmbdienbjaa.isL L (P + k) d = Proofs.Ytfmekmbdienbjaa.isL a k d := by
  rcases Nat.lt_or_ge k a.length with h3 | h3
  · exact h.isL h3 d
  · obtain rfl : k = a.length := by omega
    rw [h.stop d h1 h2, isL_fin (Nat.le_refl _)]
theorem Ctx.dig {a L : List UInt8} {P : Nat} (h : Ctx a L P) (h1 : P + a.length < L.length) : L.getD (P + a.length) 0 = 124 ∨ L.getD (P + a.length) 0 = 41 := by
  by_cases h2 : L.getD (P + a.length) 0 = 124
  · exact Or.inl h2
  · by_cases h3 : L.getD (P + a.length) 0 = 41
    · exact Or.inr h3
    · have := h.stop _ h2 h3
      unfold Proofs.Ytfmekmbdienbjaa.isL at this
      rw [decide_eq_true h1] at this
      simp at this
theorem Ctx.numK {a L : List UInt8} {P : Nat} (h : Ctx a L P) : ∀ (f k v : Nat), k ≤ a.length → numK L f (P + k) v = ((numK a f k v).1, P + (numK a f k v).2)
  | 0, k, v, _ => rfl
  | f + 1, k, v, hk => by
    have hl := h.len
    rcases Nat.lt_or_ge k a.length with h3 | h3
    · unfold Proofs.Ytfmekmbdienbjaa.numK
      rw [h.get h3]
      by_cases h4 : 48 ≤ (a.getD k 0).toNat ∧ (a.getD k 0).toNat ≤ 57
      · rw [if_pos ⟨by omega, h4⟩, if_pos ⟨h3, h4⟩, show P + k + 1 = P + (k + 1) by omega]
        exact Ctx.numK h f (k + 1) _ h3
      · rw [if_neg (fun h5 => h4 h5.2), if_neg (fun h5 => h4 h5.2)]
    · obtain rfl : k = a.length := by omega
      unfold Proofs.Ytfmekmbdienbjaa.numK
      have hA : ¬ (a.length < a.length ∧ 48 ≤ (a.getD a.length 0).toNat ∧ (a.getD a.length 0).toNat ≤ 57) := fun h4 => Nat.lt_irrefl _ h4.1
      have hL : ¬ (P + a.length < L.length ∧ 48 ≤ (L.getD (P + a.length) 0).toNat ∧ (L.getD (P + a.length) 0).toNat ≤ 57) := by
        rintro ⟨h5, h6, h7⟩
        rcases h.dig h5 with h8 | h8
        · rw [h8] at h7; revert h7; decide
        · rw [h8] at h6; revert h6; decide
      rw [if_neg hL, if_neg hA]
def SR.move (P : Nat) : SR → SR
  | .none => .none
  | .bad => .bad
  | .some a b n => .some a b (P + n)
theorem Ctx.endI {a L : List UInt8} {P k : Nat} (h : Ctx a L P) (hk : k ≤ a.length) (x y : Int) : endI L x y (P + k) = (endI a x y k).move P := by
  unfold Proofs.Ytfmekmbdienbjaa.endI
  rw [h.isL' hk (by decide) (by decide)]
  split
  · split <;> rfl
  · rfl
theorem Ctx.signL {a L : List UInt8} {P k : Nat} (h : Ctx a L P) (hk : k ≤ a.length) : signL L (P + k) = (signL a k).move P := by
  unfold Proofs.Ytfmekmbdienbjaa.signL
  rw [h.isL' hk (by decide) (by decide), h.isL' hk (by decide) (by decide), h.isL' hk (by decide) (by decide), h.isL' hk (by decide) (by decide)]
  split
  · rfl
  · split
    · rfl
    · split
      · rfl
      · split
        · rename_i h123
          have hk1 := (isL_lt h123).1
          have n1 : numL L (P + k + 1) = ((numL a (k + 1)).1, P + (numL a (k + 1)).2) := by unfold numL; exact h.numK 3 (k + 1) 0 hk1
          have b1 := numL_le a (k + 1) hk1
          unfold itvL itvF
          rw [n1]
          simp only
          by_cases h1 : (numL a (k + 1)).2 = k + 1
          · rw [if_pos h1, if_pos (by omega)]; rfl
          · rw [if_neg h1, if_neg (by omega), h.isL' b1.2.2.1 (by decide) (by decide)]
            cases h44 : Proofs.Ytfmekmbdienbjaa.isL a (numL a (k + 1)).2 44
            · rw [if_neg (by decide), if_neg (by decide)]; exact h.endI b1.2.2.1 _ _
            · have hk2 := (isL_lt h44).1
              have n2 : numL L (P + (numL a (k + 1)).2 + 1) = ((numL a ((numL a (k + 1)).2 + 1)).1, P + (numL a ((numL a (k + 1)).2 + 1)).2) := by
                rw [Nat.add_assoc]; unfold numL; exact h.numK 3 _ 0 hk2
              have b2 := numL_le a ((numL a (k + 1)).2 + 1) hk2
              rw [if_pos rfl, if_pos rfl, n2]
              simp only
              rw [show (if P + (numL a ((numL a (k + 1)).2 + 1)).2 = P + (numL a (k + 1)).2 + 1 then (-1 : Int) else ((numL a ((numL a (k + 1)).2 + 1)).1 : Int)) = (if (numL a ((numL a (k + 1)).2 + 1)).2 = (numL a (k + 1)).2 + 1 then (-1 : Int) else ((numL a ((numL a (k + 1)).2 + 1)).1 : Int)) from by
                by_cases h9 : (numL a ((numL a (k + 1)).2 + 1)).2 = (numL a (k + 1)).2 + 1
                · rw [if_pos h9, if_pos (by omega)]
                · rw [if_neg h9, if_neg (by omega)]]
              exact h.endI b2.2.2.1 _ _
        · rfl
theorem Ctx.endB {a L : List UInt8} {P k : Nat} (h : Ctx a L P) (hk : k ≤ a.length) : endB L (P + k) = endB a k := by
  rcases Nat.lt_or_ge k a.length with h3 | h3
  · have := h.len
    unfold Proofs.Ytfmekmbdienbjaa.endB
    rw [h.isL h3, h.isL h3, decide_eq_false (by omega), decide_eq_false (by omega)]
  · obtain rfl : k = a.length := by omega
    rw [h.fin]; unfold Proofs.Ytfmekmbdienbjaa.endB; rw [decide_eq_true (Nat.le_refl _)]; rfl

theorem occ2 (x : List UInt8) (c d : UInt8) (j : Nat) : Lib.occAt x [c, d] j = (x[j]? == some c && x[j + 1]? == some d) := by
  have h0 : (x.drop j)[0]? = x[j]? := by rw [List.getElem?_drop, Nat.add_zero]
  have h1 : (x.drop j)[1]? = x[j + 1]? := List.getElem?_drop
  unfold Lib.occAt
  rw [← h0, ← h1]
  rcases x.drop j with _ | ⟨p, _ | ⟨q, r⟩⟩
  · rfl
  · simp [List.isPrefixOf]
  · simp only [List.isPrefixOf, List.getElem?_cons_zero, List.getElem?_cons_succ, Bool.and_true, Option.some_beq_some]
    rw [BEq.comm (a := c), BEq.comm (a := d)]
theorem index_app {x y : List UInt8} {c d : UInt8} {s : Nat} (h : Lib.index x [c, d] = (s : Int)) : Lib.index (x ++ y) [c, d] = (s : Int) ∧ s + 2 ≤ x.length := by
  have hex : ∃ i, i ≤ x.length ∧ Lib.occAt x [c, d] i = true := by
    refine Classical.byContradiction fun hn => ?_
    have := Lib.index_none (s := x) (sub := [c, d]) fun j hj => by
      cases hb : Lib.occAt x [c, d] j
      · rfl
      · exact absurd ⟨j, hj, hb⟩ hn
    omega
  obtain ⟨i, hi, hmin⟩ : ∃ i, (i ≤ x.length ∧ Lib.occAt x [c, d] i = true) ∧ ∀ j, j < i → Lib.occAt x [c, d] j = false := by
    obtain ⟨i, hi⟩ := hex
    induction i using Nat.strongRecOn with
    | ind i ih =>
      by_cases hm : ∃ j, j < i ∧ Lib.occAt x [c, d] j = true
      · obtain ⟨j, hj, hb⟩ := hm
        exact ih j hj ⟨by omega, hb⟩
      · refine ⟨i, hi, fun j hj => ?_⟩
        cases hb : Lib.occAt x [c, d] j
        · rfl
        · exact absurd ⟨j, hj, hb⟩ hm
  have hs := Lib.index_first hi.1 hi.2 hmin
  have his : i = s := by omega
  subst his
  have ho := hi.2
  rw [occ2] at ho
  simp only [Bool.and_eq_true, beq_iff_eq] at ho
  have hr : i + 1 < x.length := by
    rcases Nat.lt_or_ge (i + 1) x.length with h9 | h9
    · exact h9
    · rw [List.getElem?_eq_none h9] at ho; cases ho.2
  refine ⟨Lib.index_first (by simp; omega) ?_ fun j hj => ?_, by omega⟩
  · rw [occ2, List.getElem?_append_left (by omega), List.getElem?_append_left hr, ho.1, ho.2]; simp
  · have := hmin j hj
    rw [occ2] at this ⊢
    rw [List.getElem?_append_left (by omega), List.getElem?_append_left (by omega)]
    exact this
theorem Ctx.begL {a L : List UInt8} {P k : Nat} (h : Ctx a L P) (hk : k < a.length) {c d : UInt8} (h1 : d ≠ 124) (h2 : d ≠ 41) : begL L (P + k) c d = begL a k c d := by
  unfold Proofs.Ytfmekmbdienbjaa.begL
  rw [h.isL hk, Nat.add_assoc, h.isL' hk h1 h2]
theorem Ctx.letL {a L : List UInt8} {P k m : Nat} {x : UInt8} (h : Ctx a L P) (hl : letL a k = some (x, m)) : letL L (P + k) = some (x, P + m) := by
  have hz := h.len
  unfold Proofs.Ytfmekmbdienbjaa.letL at hl ⊢
  by_cases h1 : k < a.length ∧ a.getD k 0 ≠ 92
  · rw [if_pos h1] at hl
    injection hl with hl
    injection hl with e1 e2
    rw [if_pos ⟨by omega, by rw [h.get h1.1]; exact h1.2⟩, h.get h1.1, e1, ← e2]; rfl
  · rw [if_neg h1] at hl
    by_cases h2 : k + 1 < a.length
    · rw [if_pos h2] at hl
      injection hl with hl
      injection hl with e1 e2
      have h3 : ¬ (P + k < L.length ∧ L.getD (P + k) 0 ≠ 92) := by
        rw [h.get (by omega)]; exact fun h9 => h1 ⟨by omega, h9.2⟩
      rw [if_neg h3, if_pos (by omega), Nat.add_assoc, h.get h2, e1, ← e2]; rfl
    · rw [if_neg h2] at hl; cases hl
theorem Ctx.goesL {a L : List UInt8} {P n : Nat} (h : Ctx a L P) (hn : n ≤ a.length) (hd : Proofs.Ytfmekmbdienbjaa.isL a n 45 = true → n + 1 < a.length) : goesL L (P + n) = goesL a n := by
  have hz := h.len
  unfold Proofs.Ytfmekmbdienbjaa.goesL
  rw [h.isL' hn (by decide) (by decide)]
  cases h45 : Proofs.Ytfmekmbdienbjaa.isL a n 45
  · rfl
  · have h1 := hd h45
    rw [Nat.add_assoc, h.get h1, decide_eq_true (by omega), decide_eq_true h1]
theorem Ctx.clasM {a L : List UInt8} {P k m : Nat} {Q : Nat → Bool} (h : Ctx a L P) (hb : k + 2 ≤ a.length) (hc : clasM a k = .ok Q m) : clasM L (P + k) = .ok Q (P + m) := by
  unfold Proofs.Ytfmekmbdienbjaa.clasM at hc ⊢
  split at hc
  · cases hc
  · rename_i h0
    obtain ⟨s, hs⟩ := Int.eq_ofNat_of_zero_le (Int.not_lt.1 h0)
    obtain ⟨pre, suf, e, e2⟩ := h.eq
    have hdr : L.drop (P + k + 2) = a.drop (k + 2) ++ suf := by
      rw [e, Nat.add_assoc, ← e2, ← List.drop_drop, List.drop_left, List.drop_append_of_le_length hb]
    obtain ⟨hi, hr⟩ := index_app (y := suf) hs
    rw [hdr, hi]
    rw [hs] at hc
    rw [if_neg (by omega)]
    simp only [Int.toNat_natCast] at hc ⊢
    rw [List.take_append_of_le_length (by omega)]
    split at hc
    · cases hc
    · rename_i p hp
      injection hc with h1 h2
      rw [h1, ← h2]
      congr 1
      omega
theorem Ctx.memM {a L : List UInt8} {P k m : Nat} {Q : Nat → Bool} (h : Ctx a L P) (hk : k < a.length) (hm : memM a k = .ok Q m) (hd : Proofs.Ytfmekmbdienbjaa.isL a m 45 = true → m + 1 < a.length) : memM L (P + k) = .ok Q (P + m) := by
  have hadv := memM_adv hm
  unfold Proofs.Ytfmekmbdienbjaa.memM at hm ⊢
  rw [h.begL hk (by decide) (by decide)]
  split at hm
  · rename_i hb
    rw [if_pos hb]
    exact h.clasM (begL_lt hb) hm
  · rename_i hb
    rw [if_neg hb]
    split at hm
    · cases hm
    · rename_i f n hl
      have hle := letL_le hl
      rw [h.letL hl]
      simp only
      split at hm
      · rename_i hg
        injection hm with e1 e2
        subst e2
        rw [if_pos (by rw [h.goesL hle.2.1 hd]; exact hg), e1]
      · rename_i hg
        have hgt := goes_lt hg
        rw [if_neg (by rw [h.goesL hle.2.1 (fun _ => hgt)]; exact hg), Nat.add_assoc, h.begL hgt (by decide) (by decide)]
        split at hm
        · cases hm
        · rename_i hb2
          rw [if_neg hb2]
          split at hm
          · cases hm
          · rename_i t m' hl2
            rw [h.letL hl2]
            simp only
            split at hm
            · cases hm
            · rename_i ht
              injection hm with e1 e2
              rw [if_neg ht, e1, e2]
theorem Ctx.runB {a L : List UInt8} {P : Nat} (h : Ctx a L P) {k : Nat} {f : Bool} {p : Nat → Bool} {R : MR} (hr : RunB a k f p R) : ∀ q n, R = .ok q n → RunB L (P + k) f p (.ok q (P + n)) := by
  induction hr with
  | stop k p hs =>
    intro q n e
    injection e with e1 e2
    subst e1 e2
    exact .stop _ _ (by rw [h.isL (isL_lt hs).1]; exact hs)
  | bad => intro q n e; cases e
  | step k f p q n R hf hm hR ih =>
    intro q' n' e
    have hadv := memM_adv hm
    refine .step _ f p q (P + n) _ ?_ (h.memM (by omega) hm fun h45 => ?_) (ih q' n' e)
    · rcases hf with hf | hf
      · exact Or.inl hf
      · exact Or.inr (by rw [h.isL (by omega)]; exact hf)
    · subst e
      rcases runB_inv hR with ⟨_, hs, _⟩ | ⟨_, ⟨x, c, _, h2⟩ | ⟨q2, m2, h2, h3⟩⟩
      · have h4 := (isL_lt h45).2
        have h5 := (isL_lt hs).2
        rw [h4] at h5; exact absurd h5 (by decide)
      · cases h2
      · have h4 := memM_adv h2
        have h5 := runB_lt h3 _ _ rfl
        omega
theorem Ctx.begB {a L : List UInt8} {P k : Nat} (h : Ctx a L P) (hk : k < a.length) : begB L (P + k) = P + begB a k := by
  unfold Proofs.Ytfmekmbdienbjaa.begB
  rw [Nat.add_assoc, h.isL' hk (by decide) (by decide)]
  split <;> omega
theorem Ctx.plainA {a L : List UInt8} {P k n : Nat} {t : PT} (h : Ctx a L P) (hk : k < a.length) (hp : plainA a k = .ok t n) : plainA L (P + k) = .ok t (P + n) := by
  have hz := h.len
  unfold Proofs.Ytfmekmbdienbjaa.plainA at hp ⊢
  rw [h.isL hk, h.isL hk, h.isL hk, h.isL hk, h.isL hk, h.isL hk, h.isL hk, h.get hk]
  split at hp
  · cases hp
  · rename_i c1
    rw [if_neg c1]
    split at hp
    · rename_i c2
      rw [if_pos c2]
      split at hp
      · cases hp
      · rename_i c3
        have h1 : k + 1 < a.length := by omega
        rw [if_neg (by omega), Nat.add_assoc, h.get h1]
        injection hp with e1 e2
        rw [e1, ← e2]; rfl
    · rename_i c2
      rw [if_neg c2]
      split at hp
      · rename_i c3
        rw [if_pos c3]; injection hp with e1 e2; rw [e1, ← e2]; rfl
      · rename_i c3
        rw [if_neg c3]
        split at hp
        · rename_i c4
          rw [if_pos c4]; injection hp with e1 e2; rw [e1, ← e2]; rfl
        · rename_i c4
          rw [if_neg c4]
          split at hp
          · rename_i c5
            rw [if_pos c5]; injection hp with e1 e2; rw [e1, ← e2]; rfl
          · rename_i c5
            rw [if_neg c5]; injection hp with e1 e2; rw [e1, ← e2]; rfl

/-- Too deep, which it is in a deeper context alone. -/
def DeepR (L : List UInt8) (d : Nat) (S : NT) : Prop := d ≠ 0 ∧ ∃ x, RunE L S (.bad x 6)
def kindT : PT → Nat
  | .node k _ _ _ _ => k
theorem kind_pie {l : List UInt8} {S : NT} {R : ER} (h : RunE l S R) : ∀ k o t s t' n, S = .pie k o t s → R = .ok t' n → t' = t ∨ kindT t' = 4 := by
  induction h with
  | pieEnd k o t s h1 =>
    intro k' o' t' s' t9 n e1 e2
    injection e1 with _ _ e3 _
    injection e2 with e4 _
    subst e3 e4
    exact Or.inl rfl
  | pieOn k o t s a b n R h1 h2 h3 ih =>
    intro k' o' t' s' t9 n9 e1 e2
    rcases ih _ _ _ _ t9 n9 rfl e2 with h4 | h4
    · rw [h4]; exact Or.inr rfl
    · exact Or.inr h4
  | pieBad => intro k' o' t' s' t9 n e1 e2; cases e2
  | pieDeep => intro k' o' t' s' t9 n e1 e2; cases e2
  | _ => intro k' o' t' s' t9 n e1 e2; cases e1
theorem kind_plain {l : List UInt8} {k n : Nat} {t : PT} (h : plainA l k = .ok t n) : kindT t ≠ 3 := by
  unfold plainA at h
  split at h
  · cases h
  · split at h
    · split at h
      · cases h
      · injection h with h _; subst h; intro e; cases e
    · split at h
      · injection h with h _; subst h; intro e; cases e
      · split at h
        · injection h with h _; subst h; intro e; cases e
        · split at h
          · injection h with h _; subst h; intro e; cases e
          · injection h with h _; subst h; intro e; cases e
theorem kind_atm {l : List UInt8} {k o n : Nat} {t : PT} (h : RunE l (.atm k o) (.ok t n)) (hk : kindT t = 3) : isL l k 40 = true := by
  generalize hR : ER.ok t n = R at h
  cases h with
  | atmDeep => cases hR
  | atmBad => cases hR
  | atmOpen => cases hR
  | atmOk _ _ _ _ h1 => exact h1
  | atmSet _ _ R h1 h2 =>
    cases R with
    | ok p m =>
      unfold ofMR at hR
      injection hR with e _
      rw [e] at hk; cases hk
    | bad a c => cases hR
  | atmOne _ _ h1 h2 h3 => exact absurd hk (kind_plain hR.symm)
theorem kind_bra {l : List UInt8} {S : NT} {R : ER} (h : RunE l S R) : ∀ k o acc t n, S = .bra k o acc → R = .ok t n → ∃ acc', t = together 2 (acc ++ acc') ∧ ∀ t1, acc'[0]? = some t1 → kindT t1 = 3 → isL l k 40 = true := by
  induction h with
  | braEnd k o acc h1 =>
    intro k' o' acc' t n e1 e2
    injection e1 with _ _ e3
    injection e2 with e4 _
    subst e3 e4
    exact ⟨[], by rw [List.append_nil], fun t1 h2 => by simp at h2⟩
  | braOn k o acc t t' n n' R h1 h2 h3 h4 ih1 ih2 ih3 =>
    intro k' o' acc' t9 n9 e1 e2
    injection e1 with e3 e4 e5
    subst e3 e4 e5
    obtain ⟨ac, h5, _⟩ := ih3 _ _ _ t9 n9 rfl e2
    refine ⟨t' :: ac, by rw [h5, List.append_assoc]; rfl, fun t1 h6 h7 => ?_⟩
    simp only [List.getElem?_cons_zero, Option.some.injEq] at h6
    subst h6
    rcases kind_pie h3 _ _ _ _ _ _ rfl rfl with h8 | h8
    · rw [h8] at h7; exact kind_atm h2 h7
    · rw [h8] at h7; cases h7
  | braBad => intro k' o' acc' t n e1 e2; cases e2
  | braSgn => intro k' o' acc' t n e1 e2; cases e2
  | _ => intro k' o' acc' t n e1 e2; cases e1
theorem kind_bra0 {l : List UInt8} {k o n : Nat} {t : PT} (h : RunE l (.bra k o []) (.ok t n)) (hk : kindT t = 3) : isL l k 40 = true := by
  obtain ⟨acc, e, h1⟩ := kind_bra h _ _ _ _ _ rfl rfl
  rw [List.nil_append] at e
  rcases acc with _ | ⟨t1, _ | ⟨t2, r⟩⟩
  · rw [e] at hk; cases hk
  · rw [e] at hk; exact h1 t1 rfl hk
  · rw [e] at hk; cases hk
/-- What stays of an expression that ends where the context goes on. -/
def TopM (a L : List UInt8) (P d k o : Nat) (acc : List PT) (t : PT) : Prop := ∃ accF, (acc.length < accF.length ∧ (acc = [] → ∀ t1, accF = [t1] → kindT t1 = 3 → isL a k 40 = true)) ∧ t = together 3 accF ∧ ∀ Q, DeepR L d (.exp (P + k) (o + d) (Q ++ acc)) ∨
  ((isL L (P + a.length) 124 = false → RunE L (.exp (P + k) (o + d) (Q ++ acc)) (.ok (together 3 (Q ++ accF)) (P + a.length))) ∧
   (isL L (P + a.length) 124 = true → ∀ R, RunE L (.exp (P + a.length + 1) (o + d) (Q ++ accF)) R → RunE L (.exp (P + k) (o + d) (Q ++ acc)) R))
def GoM (a L : List UInt8) (P d : Nat) (t : PT) (n : Nat) : NT → Prop
  | .exp k o acc => k ≤ a.length → (n < a.length → RunE L (.exp (P + k) (o + d) acc) (.ok t (P + n)) ∨ DeepR L d (.exp (P + k) (o + d) acc)) ∧ (n = a.length → TopM a L P d k o acc t)
  | .bra k o acc => k ≤ a.length → RunE L (.bra (P + k) (o + d) acc) (.ok t (P + n)) ∨ DeepR L d (.bra (P + k) (o + d) acc)
  | .pie k o t0 s => k ≤ a.length → RunE L (.pie (P + k) (o + d) t0 s) (.ok t (P + n))
  | .atm k o => RunE L (.atm (P + k) (o + d)) (.ok t (P + n)) ∨ DeepR L d (.atm (P + k) (o + d))
theorem Ctx.run {a L : List UInt8} {P : Nat} (h : Ctx a L P) (d : Nat) {S : NT} {R : ER} (hr : RunE a S R) : ∀ t n, R = .ok t n → GoM a L P d t n S := by
  induction hr with
  | expBad => intro t n e; cases e
  | expEnd k o acc t n h1 h2 ih =>
    intro t' n' e hk
    injection e with e1 e2
    subst e1 e2
    have hb := ih _ _ rfl hk
    refine ⟨fun hn => ?_, fun hn => ?_⟩
    · rcases hb with hb | ⟨hd, x, hb⟩
      · exact Or.inl (.expEnd _ _ _ t _ hb (by rw [h.isL hn]; exact h2))
      · exact Or.inr ⟨hd, x, .expBad _ _ _ x 6 hb⟩
    · subst hn
      refine ⟨acc ++ [t], ⟨by simp, fun h0 t1 h3 h4 => ?_⟩, rfl, fun Q => ?_⟩
      · subst h0
        rw [List.nil_append] at h3
        injection h3 with h3
        subst h3
        exact kind_bra0 h1 h4
      rcases hb with hb | ⟨hd, x, hb⟩
      · refine Or.inr ⟨fun h3 => ?_, fun h3 R hR => ?_⟩
        · rw [← List.append_assoc]; exact .expEnd _ _ _ t _ hb h3
        · rw [← List.append_assoc] at hR; exact .expOr _ _ _ t _ R hb h3 hR
      · exact Or.inl ⟨hd, x, .expBad _ _ _ x 6 hb⟩
  | expOr k o acc t n R h1 h2 h3 ih1 ih2 =>
    intro t' n' e hk
    have hn := (isL_lt h2).1
    have hb := ih1 _ _ rfl hk
    have he := ih2 _ _ e hn
    have h2' : Proofs.Ytfmekmbdienbjaa.isL L (P + n) 124 = true := by rw [h.isL hn]; exact h2
    rw [show P + (n + 1) = P + n + 1 from rfl] at *
    refine ⟨fun hn' => ?_, fun hn' => ?_⟩
    · rcases hb with hb | ⟨hd, x, hb⟩
      · rcases he.1 hn' with he | ⟨hd, x, he⟩
        · exact Or.inl (.expOr _ _ _ t _ _ hb h2' he)
        · exact Or.inr ⟨hd, x, .expOr _ _ _ t _ _ hb h2' he⟩
      · exact Or.inr ⟨hd, x, .expBad _ _ _ x 6 hb⟩
    · obtain ⟨accF, hne, ht, hT⟩ := he.2 hn'
      refine ⟨accF, ⟨by have := hne.1; simp at this; omega, fun h0 t1 h5 _ => by have := hne.1; rw [h5] at this; simp at this⟩, ht, fun Q => ?_⟩
      rcases hb with hb | ⟨hd, x, hb⟩
      · have hT := hT Q
        rw [← List.append_assoc] at hT
        rcases hT with ⟨hd, x, hT⟩ | ⟨hT1, hT2⟩
        · exact Or.inl ⟨hd, x, .expOr _ _ _ t _ _ hb h2' hT⟩
        · exact Or.inr ⟨fun h4 => .expOr _ _ _ t _ _ hb h2' (hT1 h4), fun h4 R hR => .expOr _ _ _ t _ _ hb h2' (hT2 h4 R hR)⟩
      · exact Or.inl ⟨hd, x, .expBad _ _ _ x 6 hb⟩
  | braEnd k o acc h1 =>
    intro t n e hk
    injection e with e1 e2
    subst e1 e2
    exact Or.inl (.braEnd _ _ _ (by rw [h.endB hk]; exact h1))
  | braBad => intro t n e; cases e
  | braSgn => intro t n e; cases e
  | braOn k o acc t t' n n' R h1 h2 h3 h4 ih1 ih2 ih3 =>
    intro t9 n9 e hk
    have a1 := runE_adv h2 _ _ rfl
    have a2 := runE_adv h3 _ _ rfl a1.2
    have h1' : Proofs.Ytfmekmbdienbjaa.endB L (P + k) = false := by rw [h.endB hk]; exact h1
    rcases ih1 _ _ rfl with hA | ⟨hd, x, hA⟩
    · have hB := ih2 _ _ rfl a1.2
      rcases ih3 _ _ e a2.2 with hC | ⟨hd, x, hC⟩
      · exact Or.inl (.braOn _ _ _ t t' _ _ _ h1' hA hB hC)
      · exact Or.inr ⟨hd, x, .braOn _ _ _ t t' _ _ _ h1' hA hB hC⟩
    · exact Or.inr ⟨hd, x, .braBad _ _ _ x 6 h1' hA⟩
  | pieEnd k o t s h1 =>
    intro t9 n9 e hk
    injection e with e1 e2
    subst e1 e2
    exact .pieEnd _ _ _ _ (by rw [h.signL hk, h1]; rfl)
  | pieBad => intro t n e; cases e
  | pieDeep => intro t n e; cases e
  | pieOn k o t s a' b' n R h1 h2 h3 ih =>
    intro t9 n9 e hk
    have a1 := signL_some h1
    exact .pieOn _ _ _ _ a' b' (P + n) _ (by rw [h.signL hk, h1]; rfl) h2 (ih _ _ e a1.2.1)
  | atmDeep => intro t n e; cases e
  | atmBad => intro t n e; cases e
  | atmOpen => intro t n e; cases e
  | atmOk k o t n h1 h2 h3 h4 ih =>
    intro t9 n9 e
    injection e with e1 e2
    subst e1 e2
    have hk := (isL_lt h1).1
    have hn := (isL_lt h4).1
    have h1' : Proofs.Ytfmekmbdienbjaa.isL L (P + k) 40 = true := by rw [h.isL hk]; exact h1
    by_cases h64 : o + d = 64
    · show RunE L (.atm (P + k) (o + d)) _ ∨ DeepR L d (.atm (P + k) (o + d))
      rw [h64]
      exact Or.inr ⟨by omega, _, .atmDeep (P + k) h1'⟩
    · have hE := (ih _ _ rfl hk).1 hn
      rw [show P + (k + 1) = P + k + 1 from rfl, show o + 1 + d = o + d + 1 by omega] at hE
      rcases hE with hE | ⟨hd, x, hE⟩
      · exact Or.inl (.atmOk _ _ t (P + n) h1' h64 hE (by rw [h.isL hn]; exact h4))
      · exact Or.inr ⟨hd, x, .atmBad _ _ x 6 h1' h64 hE⟩
  | atmSet k o R h1 h2 =>
    intro t n e
    have hk := (isL_lt h1).1
    cases R with
    | bad a c => cases e
    | ok p m =>
      unfold ofMR at e
      injection e with e1 e2
      subst e1 e2
      have hB := h.runB h2 _ _ rfl
      rw [← h.begB hk] at hB
      have := RunE.atmSet (P + k) (o + d) _ (by rw [h.isL hk]; exact h1) hB
      unfold ofMR at this
      rw [Nat.add_assoc P k 1, h.isL' hk (by decide) (by decide)] at this
      exact Or.inl this
  | atmOne k o h1 h2 h3 =>
    intro t n e
    have hk9 : P + k < L.length := by
      have h8 : k < a.length := h1
      have h9 := h.len
      omega
    have := RunE.atmOne (P + k) (o + d) hk9 (by rw [h.isL h1]; exact h2) (by rw [h.isL h1]; exact h3)
    rw [h.plainA h1 e] at this
    exact Or.inl this

def inL (a : List UInt8) : List UInt8 := [40] ++ (a ++ [41])
def orL (a b : List UInt8) : List UInt8 := a ++ ([124] ++ b)
theorem inL_len (a : List UInt8) : (inL a).length = a.length + 2 := by simp [inL]
theorem orL_len (a b : List UInt8) : (orL a b).length = a.length + 1 + b.length := by simp [orL]; omega
theorem in_ctx (a : List UInt8) : Ctx a (inL a) 1 := by
  have hg : (inL a).getD (1 + a.length) 0 = 41 := by
    unfold inL
    rw [List.getD_eq_getElem?_getD, List.getElem?_append_right (by simp), List.length_singleton, Nat.add_sub_cancel_left, List.getElem?_append_right (Nat.le_refl _)]
    simp
  have hl : 1 + a.length < (inL a).length := by rw [inL_len]; omega
  refine ⟨⟨[40], [41], rfl, rfl⟩, fun d h1 h2 => ?_, ?_⟩
  · rw [isL_of hl hg, beq_eq_false_iff_ne]; exact fun e => h2 e.symm
  · exact endB_yes (Or.inr ⟨hl, hg⟩)
theorem or_get (a b : List UInt8) : (orL a b).getD a.length 0 = 124 := by
  unfold orL
  rw [List.getD_eq_getElem?_getD, List.getElem?_append_right (Nat.le_refl _)]; simp
theorem or_ctx1 (a b : List UInt8) : Ctx a (orL a b) 0 := by
  have hl : 0 + a.length < (orL a b).length := by rw [orL_len]; omega
  have hg : (orL a b).getD (0 + a.length) 0 = 124 := by rw [Nat.zero_add]; exact or_get a b
  refine ⟨⟨[], [124] ++ b, rfl, rfl⟩, fun d h1 h2 => ?_, ?_⟩
  · rw [isL_of hl hg, beq_eq_false_iff_ne]; exact fun e => h1 e.symm
  · unfold endB; rw [isL_of hl hg]; simp
theorem or_ctx2 (a b : List UInt8) : Ctx b (orL a b) (a.length + 1) := by
  have hl : (orL a b).length ≤ a.length + 1 + b.length := by rw [orL_len]; omega
  exact ⟨⟨a ++ [124], [], by simp [orL], by simp⟩, fun d _ _ => isL_fin hl d, by unfold endB; rw [decide_eq_true hl]; rfl⟩
theorem in_run {a : List UInt8} {t : PT} (h : RunE a (.exp 0 0 []) (.ok t a.length)) :
    RunE (inL a) (.exp 0 0 []) (.ok t (inL a).length) ∨ ∃ x, RunE (inL a) (.exp 0 0 []) (.bad x 6) := by
  have hl0 : 0 < (inL a).length := by rw [inL_len]; omega
  have h40 : isL (inL a) 0 40 = true := by unfold isL; rw [decide_eq_true hl0]; rfl
  have he : endB (inL a) 0 = false := by
    unfold endB; rw [decide_eq_false (by omega), isL_of hl0 (c := 40) rfl, isL_of hl0 (c := 40) rfl]; rfl
  have hl : 1 + a.length < (inL a).length := by rw [inL_len]; omega
  have hc := in_ctx a
  have h41 : isL (inL a) (1 + a.length) 41 = true := by
    rcases hc.dig hl with h9 | h9
    · exfalso
      have : (inL a).getD (1 + a.length) 0 = 41 := by
        unfold inL
        rw [List.getD_eq_getElem?_getD, List.getElem?_append_right (by simp), List.length_singleton, Nat.add_sub_cancel_left, List.getElem?_append_right (Nat.le_refl _)]
        simp
      rw [this] at h9; exact absurd h9 (by decide)
    · rw [isL_of hl h9]; rfl
  have h124 : isL (inL a) (1 + a.length) 124 = false := by
    have h9 := (isL_lt h41).2
    rw [isL_of hl h9]; rfl
  obtain ⟨accF, _, ht, hT⟩ := ((hc.run 1 h) _ _ rfl (Nat.zero_le _)).2 rfl
  rcases hT [] with ⟨_, x, hx⟩ | ⟨h1, _⟩
  · exact Or.inr ⟨x, .expBad _ _ _ x 6 (.braBad _ _ _ x 6 he (.atmBad 0 0 x 6 h40 (by decide) hx))⟩
  · have hE := h1 h124
    have hA : RunE (inL a) (.atm 0 0) (.ok t (1 + a.length + 1)) := by
      rw [ht]; exact .atmOk 0 0 _ _ h40 (by decide) hE h41
    have := exp_atom he hA (Or.inl (by rw [inL_len]; omega))
    rw [show 1 + a.length + 1 = (inL a).length by rw [inL_len]; omega] at this
    exact Or.inl this
/-- How many branches an expression has, told by its part. -/
def cntT : PT → Nat
  | .node k _ _ _ l => if k = 3 then l.length else 1
theorem cnt_of {a : List UInt8} {accF : List PT} (hne : ([] : List PT).length < accF.length) (h : ∀ t1, accF = [t1] → kindT t1 = 3 → isL a 0 40 = true) : cntT (together 3 accF) = accF.length ∨ isL a 0 40 = true := by
  rcases accF with _ | ⟨t1, _ | ⟨t2, r⟩⟩
  · simp at hne
  · show cntT t1 = 1 ∨ _
    by_cases hk : kindT t1 = 3
    · exact Or.inr (h t1 rfl hk)
    · left
      cases t1 with
      | node k p a b l => exact if_neg hk
  · exact Or.inl rfl
theorem or_run {a b : List UInt8} {ta tb : PT} (ha : RunE a (.exp 0 0 []) (.ok ta a.length)) (hb : RunE b (.exp 0 0 []) (.ok tb b.length)) :
    ∃ l, RunE (orL a b) (.exp 0 0 []) (.ok (.node 3 nonP 0 0 l) (orL a b).length) ∧ (l.length = cntT ta + cntT tb ∨ isL a 0 40 = true ∨ isL b 0 40 = true) := by
  obtain ⟨fa, hna, hta, hTa⟩ := (((or_ctx1 a b).run 0 ha) _ _ rfl (Nat.zero_le _)).2 rfl
  obtain ⟨fb, hnb, htb, hTb⟩ := (((or_ctx2 a b).run 0 hb) _ _ rfl (Nat.zero_le _)).2 rfl
  have hl : a.length < (orL a b).length := by rw [orL_len]; omega
  have h1 : isL (orL a b) (0 + a.length) 124 = true := by rw [Nat.zero_add, isL_of hl (or_get a b)]; rfl
  have h2 : isL (orL a b) (a.length + 1 + b.length) 124 = false := isL_fin (by rw [orL_len]; omega) _
  rcases hTa [] with ⟨h9, _⟩ | ⟨_, hA⟩
  · exact absurd rfl h9
  rcases hTb fa with ⟨h9, _⟩ | ⟨hB, _⟩
  · exact absurd rfl h9
  have hB := hB h2
  rw [List.append_nil] at hB
  have hA := hA h1
  rw [List.nil_append, List.nil_append] at hA
  have hR := hA _ (by rw [Nat.zero_add]; exact hB)
  have hlen : 2 ≤ (fa ++ fb).length := by
    have := hna.1
    have := hnb.1
    simp at *
    omega
  have hk : together 3 (fa ++ fb) = .node 3 nonP 0 0 (fa ++ fb) := by
    generalize fa ++ fb = F at hlen
    rcases F with _ | ⟨x, _ | ⟨y, r⟩⟩
    · simp at hlen
    · simp at hlen
    · rfl
  rw [hk] at hR
  refine ⟨fa ++ fb, by rw [orL_len]; exact hR, ?_⟩
  rcases cnt_of hna.1 (hna.2 rfl) with h3 | h3
  · rcases cnt_of hnb.1 (hnb.2 rfl) with h4 | h4
    · left; rw [hta, htb, h3, h4, List.length_append]
    · exact Or.inr (Or.inr h4)
  · exact Or.inr (Or.inl h3)
end Go.Proofs.Ytfmekmbdienbjaa
