/- Layer 4: expression, whole: its methods call each other; by how many bytes are left. -/
import Derived.Test.YtfmekmbdienbjaaEreJ
import Derived.Test.YtfmekmbdienbjaaEreK
import Derived.Test.YtfmekmbdienbjaaEreN
import Derived.Test.YtfmekmbdienbjaaEreO
namespace Go.Proofs.Ytfmekmbdienbjaa
set_option linter.unusedSimpArgs false
set_option linter.unusedVariables false
set_option linter.unnecessarySimpa false
open Go.RowKit

theorem not_two {l : List UInt8} {k : Nat} {c d : UInt8} (h : isL l k c = true) (hn : c ≠ d) : isL l k d = false := by
  have h1 := isL_lt h
  unfold isL
  rw [h1.2, beq_eq_false_iff_ne.2 hn, Bool.and_false]
theorem atm_u {w : World} {rb : Nat} {v : Value} {l : List UInt8} (h : Env w rb v l) (hl : l.length ≤ 1000000000) (k o : Nat) (ho : o ≤ 64) (hr : RD w rb v k o) (R : ER) (hR : RunE l (.atm k o) R)
    (IH : ∀ (R : ER) (W : World), k + 1 ≤ l.length → o + 1 ≤ 64 → RunE l (.exp (k + 1) (o + 1) []) R → Env W rb v l → RD W rb v (k + 1) (o + 1) → Calls Try.prog 12 #[.pointer (some ⟨rb, 0, none⟩)] W fun e w' => EndR rb v (o + 1) W R e w') :
    Calls Try.prog 21 #[.pointer (some ⟨rb, 0, none⟩)] w fun e w' => EndR rb v o w R e w' := by
  cases hR with
  | atmDeep _ h40 => exact atm_grp h hl k 64 (isL_lt h40).1 hr h40 _ fun W E D => grp_deep E hl k 64 (isL_lt h40).1 D rfl
  | atmBad _ _ a c h40 h64 h1 => exact atm_grp h hl k o (isL_lt h40).1 hr h40 _ fun W E D => grp_bad E hl k o (isL_lt h40).1 D (by omega) a c fun W' E' D' => IH _ W' (isL_lt h40).1 (by omega) h1 E' D'
  | atmOpen _ _ t n h40 h64 h1 h41 =>
    exact atm_grp h hl k o (isL_lt h40).1 hr h40 _ fun W E D => grp_open E hl k o (isL_lt h40).1 D (by omega) t n (runE_adv h1 _ _ rfl (isL_lt h40).1).2 h41 fun W' E' D' => IH _ W' (isL_lt h40).1 (by omega) h1 E' D'
  | atmOk _ _ t n h40 h64 h1 h41 =>
    exact atm_grp h hl k o (isL_lt h40).1 hr h40 _ fun W E D => grp_ok E hl k o (isL_lt h40).1 D (by omega) t n (runE_adv h1 _ _ rfl (isL_lt h40).1).2 h41 fun W' E' D' => IH _ W' (isL_lt h40).1 (by omega) h1 E' D'
  | atmSet _ _ R h91 hB =>
    refine atm_brk h hl k o (isL_lt h91).1 hr h91 _ fun W E D => ?_
    cases R with
    | ok p n =>
      refine ebr_ok E hl k o (isL_lt h91).1 D h91 (turnP (isL l (k + 1) 94) p) n (runB_lt hB _ _ rfl).2 fun W' hW => ?_
      exact brk_u (E.BS.on hW) hl (E.HM.on hW) k h91 _ hB
    | bad a c =>
      refine ebr_bad E hl k o (isL_lt h91).1 D h91 a c fun W' hW => ?_
      refine (brk_u (E.BS.on hW) hl (E.HM.on hW) k h91 _ hB).mono ?_
      rintro e w' ⟨b, rfl, h1, h2, h3⟩
      exact ⟨_, rfl, ⟨b, rfl, Nat.le_trans hW.size h1, h2⟩, h3⟩
  | atmOne _ _ hk h40 h91 =>
    unfold plainA
    by_cases hs : isL l k 42 = true ∨ isL l k 43 = true ∨ isL l k 63 = true
    · rw [if_pos hs]
      rcases hs with h1 | h1 | h1
      · exact atm_s42 h hl k o hk hr h1
      · exact atm_s43 h hl k o hk hr h1
      · exact atm_s63 h hl k o hk hr h1
    · rw [if_neg hs]
      have s42 : isL l k 42 = false := by simpa using fun h1 => hs (Or.inl h1)
      have s43 : isL l k 43 = false := by simpa using fun h1 => hs (Or.inr (Or.inl h1))
      have s63 : isL l k 63 = false := by simpa using fun h1 => hs (Or.inr (Or.inr h1))
      by_cases h92 : isL l k 92 = true
      · rw [if_pos h92]
        refine atm_esc h hl k o hk hr h92 _ fun W E D => ?_
        by_cases he : k + 1 = l.length
        · rw [if_pos he]; exact esc_end E hl k o hk D he
        · rw [if_neg he]; exact esc_ok E hl k o hk D (by omega)
      · rw [if_neg h92]
        by_cases h46 : isL l k 46 = true
        · rw [if_pos h46]; exact atm_dot h hl k o hk hr h46
        · rw [if_neg h46]
          by_cases h94 : isL l k 94 = true
          · rw [if_pos h94]; exact atm_beg h hl k o hk hr h94
          · rw [if_neg h94]
            by_cases h36 : isL l k 36 = true
            · rw [if_pos h36]; exact atm_end h hl k o hk hr h36
            · rw [if_neg h36]
              exact atm_one h hl k o hk hr s42 s43 s63 h40 h91 (by simpa using h92) (by simpa using h46) (by simpa using h94) (by simpa using h36)
theorem exp_all {l : List UInt8} (hl : l.length ≤ 1000000000) (rb : Nat) (v : Value) : ∀ (d k o : Nat) (R : ER) (W : World), l.length - k < d → k ≤ l.length → o ≤ 64 → RunE l (.exp k o []) R → Env W rb v l → RD W rb v k o →
    Calls Try.prog 12 #[.pointer (some ⟨rb, 0, none⟩)] W fun e w' => EndR rb v o W R e w' := by
  intro d
  induction d with
  | zero => intro k o R W hd; omega
  | succ d ih =>
    intro k o R W hd hk ho hR hE hD
    have A : ∀ n W R, k ≤ n → n < l.length → RunE l (.atm n o) R → Env W rb v l → RD W rb v n o → Calls Try.prog 21 #[.pointer (some ⟨rb, 0, none⟩)] W fun e w' => EndR rb v o W R e w' :=
      fun n W R h1 h2 h3 E D => atm_u E hl n o ho D R h3 fun R' W' h4 h5 h6 E' D' => ih (n + 1) (o + 1) R' W' (by omega) h4 h5 h6 E' D'
    have P : ∀ n W R, k ≤ n → n < l.length → PieceR l n o R → Env W rb v l → RD W rb v n o → Calls Try.prog 20 #[.pointer (some ⟨rb, 0, none⟩)] W fun e w' => EndR rb v o W R e w' := by
      intro n W R h1 h2 h3 E D
      rcases h3 with ⟨a, c, h4, rfl⟩ | ⟨t, m, h4, h5⟩
      · exact pie_bad E hl n o h2 D a c fun W' E' D' => A n W' _ h1 h2 h4 E' D'
      · exact pie_ok E hl n o h2 D t m (runE_adv h4 _ _ rfl).2 R h5 fun W' E' D' => A n W' _ h1 h2 h4 E' D'
    exact exp_u hE hl k o hk hD R hR fun n W R h1 h2 h3 E D => bra_u E hl n o h2 D R h3 fun n' W' R' h4 h5 h6 E' D' => P n' W' R' (Nat.le_trans h1 h4) h5 h6 E' D'
end Go.Proofs.Ytfmekmbdienbjaa
