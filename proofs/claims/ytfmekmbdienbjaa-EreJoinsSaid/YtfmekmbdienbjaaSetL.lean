/- The contract of member of charset, whole; how a bracket expression runs. -/
import Derived.Test.YtfmekmbdienbjaaSetK
namespace Go.Proofs.Ytfmekmbdienbjaa
set_option linter.unusedSimpArgs false
set_option linter.unusedVariables false
set_option linter.unnecessarySimpa false
open Go.RowKit

theorem u8_lt {a b : UInt8} : (decide (a.toNat < b.toNat) = true) = (a.toNat < b.toNat) := by simp
theorem goes_lt {l : List UInt8} {k : Nat} (h : ¬ goesL l k = false) : k + 1 < l.length := by
  have h : goesL l k = true := by simpa using h
  unfold goesL at h
  simp only [Bool.and_eq_true, decide_eq_true_eq] at h
  exact h.2.1

set_option maxRecDepth 100000 in
theorem mem_ok {v : Value} {l : List UInt8} {w : World} (h : BS w v l) (hl : l.length ≤ 1000000000) (hM : HM w) (k : Nat) (hk : k ≤ l.length) {P : Nat → Bool} {n : Nat} (hr : memM l k = .ok P n) :
    Calls Try.prog 36 #[v, .int .i64 (k : Int)] w fun e w' => e = .returned (.tuple #[setV P, .int .i64 (n : Int), .nilIface]) ∧ Below w.heap.size w w' := by
  have hbg := fun (W : World) (hW : Below w.heap.size w W) => begins_u (h.on hW) k hk
  unfold memM at hr
  split at hr
  · rename_i hb
    rw [hb] at hbg
    exact mem1 (m := 0) (by omega) hbg (fun W hW => clas_ok (h.on hW) hl (hM.on hW) k (begL_lt hb) hr)
  · rename_i hb
    have hb : begL l k 91 58 = false := by simpa using hb
    rw [hb] at hbg
    split at hr
    · cases hr
    · rename_i f m hm
      have h1 := letL_le hm
      have hlo := fun (W : World) (hW : Below w.heap.size w W) => letter_ok (h.on hW) hl k f m hm
      have hgo := fun (W : World) (hW : Below w.heap.size w W) => goes_u (h.on hW) hl m (by omega)
      split at hr
      · rename_i hg
        injection hr with e1 e2
        subst e1 e2
        rw [hg] at hgo
        exact mem4 (by omega) hbg hlo hgo (fun W hW => range_u f f W) rfl
      · rename_i hg
        have h2 := goes_lt hg
        have hg : goesL l m = true := by simpa using hg
        rw [hg] at hgo
        have hbg2 := fun (W : World) (hW : Below w.heap.size w W) => begins_u (h.on hW) (m + 1) (by omega)
        split at hr
        · cases hr
        · rename_i hd
          have hd : begL l (m + 1) 91 58 = false := by simpa using hd
          rw [hd] at hbg2
          split at hr
          · cases hr
          · rename_i t m' hm'
            have hlo2 := fun (W : World) (hW : Below w.heap.size w W) => letter_ok (h.on hW) hl (m + 1) t m' hm'
            split at hr
            · cases hr
            · rename_i ht
              injection hr with e1 e2
              subst e1 e2
              exact mem8 (by omega) hbg hlo hgo hbg2 hlo2 (fun W hW => range_u f t W) (decide_eq_false ht)
set_option maxRecDepth 100000 in
theorem mem_bad {v : Value} {l : List UInt8} {w : World} (h : BS w v l) (hl : l.length ≤ 1000000000) (hM : HM w) (k : Nat) (hk : k ≤ l.length) {a c : Nat} (hr : memM l k = .bad a c) :
    Calls Try.prog 36 #[v, .int .i64 (k : Int)] w fun e w' => BadR w e w' a c := by
  have hbg := fun (W : World) (hW : Below w.heap.size w W) => begins_u (h.on hW) k hk
  unfold memM at hr
  split at hr
  · rename_i hb
    rw [hb] at hbg
    exact mem2 (m := 0) (by omega) hbg (fun W hW => clas_bad (h.on hW) hl (hM.on hW) k (begL_lt hb) hr)
  · rename_i hb
    have hb : begL l k 91 58 = false := by simpa using hb
    rw [hb] at hbg
    split at hr
    · rename_i hm
      injection hr with e1 e2
      subst e1 e2
      exact mem3 (m := 0) (by omega) hbg (fun W hW => letter_bad (h.on hW) hl k (by omega) hm)
    · rename_i f m hm
      have h1 := letL_le hm
      have hlo := fun (W : World) (hW : Below w.heap.size w W) => letter_ok (h.on hW) hl k f m hm
      have hgo := fun (W : World) (hW : Below w.heap.size w W) => goes_u (h.on hW) hl m (by omega)
      split at hr
      · cases hr
      · rename_i hg
        have h2 := goes_lt hg
        have hg : goesL l m = true := by simpa using hg
        rw [hg] at hgo
        have hbg2 := fun (W : World) (hW : Below w.heap.size w W) => begins_u (h.on hW) (m + 1) (by omega)
        split at hr
        · rename_i hd
          injection hr with e1 e2
          subst e1 e2
          rw [hd] at hbg2
          exact mem5 (by omega) hbg hlo hgo hbg2
        · rename_i hd
          have hd : begL l (m + 1) 91 58 = false := by simpa using hd
          rw [hd] at hbg2
          split at hr
          · rename_i hm'
            injection hr with e1 e2
            subst e1 e2
            exact mem6 (by omega) hbg hlo hgo hbg2 (fun W hW => letter_bad (h.on hW) hl (m + 1) (by omega) hm')
          · rename_i t m' hm'
            have hlo2 := fun (W : World) (hW : Below w.heap.size w W) => letter_ok (h.on hW) hl (m + 1) t m' hm'
            split at hr
            · rename_i ht
              injection hr with e1 e2
              subst e1 e2
              exact mem7 (by omega) hbg hlo hgo hbg2 hlo2 (decide_eq_true ht)
            · cases hr

/-- How the members run from a place on: up to the ], or to what is wrong. -/
inductive RunB (l : List UInt8) : Nat → Bool → (Nat → Bool) → MR → Prop where
  | stop (k : Nat) (p : Nat → Bool) : isL l k 93 = true → RunB l k false p (.ok p k)
  | bad (k : Nat) (f : Bool) (p : Nat → Bool) (a c : Nat) : (f = true ∨ isL l k 93 = false) → memM l k = .bad a c → RunB l k f p (.bad a c)
  | step (k : Nat) (f : Bool) (p q : Nat → Bool) (n : Nat) (R : MR) : (f = true ∨ isL l k 93 = false) → memM l k = .ok q n → RunB l n false (fun x => p x || q x) R → RunB l k f p R
theorem runB_ex (l : List UInt8) : ∀ (d k : Nat), l.length - k ≤ d → k ≤ l.length → ∀ (f : Bool) (p : Nat → Bool), ∃ R, RunB l k f p R := by
  have main : ∀ (d k : Nat), l.length - k ≤ d → k ≤ l.length → ∀ (f : Bool) (p : Nat → Bool), (f = true ∨ isL l k 93 = false) → (∀ n, k < n → n ≤ l.length → ∀ q, ∃ R, RunB l n false q R) → ∃ R, RunB l k f p R := by
    intro d k hd hk f p hf ih
    cases hm : memM l k with
    | bad a c => exact ⟨_, .bad k f p a c hf hm⟩
    | ok q n =>
      have ha := memM_adv hm
      obtain ⟨R, hR⟩ := ih n ha.1 ha.2 (fun x => p x || q x)
      exact ⟨R, .step k f p q n R hf hm hR⟩
  intro d
  induction d with
  | zero =>
    intro k hd hk f p
    have hkl : k = l.length := by omega
    have hs : isL l k 93 = false := by unfold isL; rw [decide_eq_false (by omega)]; rfl
    exact main 0 k hd hk f p (Or.inr hs) (fun n h1 h2 => by omega)
  | succ d ih =>
    intro k hd hk f p
    have next := fun n (h1 : k < n) (h2 : n ≤ l.length) q => ih n (by omega) h2 false q
    cases hs : isL l k 93 with
    | false => exact main _ k hd hk f p (Or.inr hs) next
    | true =>
      cases f with
      | true => exact main _ k hd hk true p (Or.inl rfl) next
      | false => exact ⟨_, .stop k p hs⟩
theorem runB_inv {l : List UInt8} {k : Nat} {f : Bool} {p : Nat → Bool} {R : MR} (h : RunB l k f p R) :
    (f = false ∧ isL l k 93 = true ∧ R = .ok p k) ∨ ((f = true ∨ isL l k 93 = false) ∧ ((∃ a c, memM l k = .bad a c ∧ R = .bad a c) ∨ (∃ q n, memM l k = .ok q n ∧ RunB l n false (fun x => p x || q x) R))) := by
  cases h with
  | stop _ _ hs => exact Or.inl ⟨rfl, hs, rfl⟩
  | bad _ _ _ a c hf hm => exact Or.inr ⟨hf, Or.inl ⟨a, c, hm, rfl⟩⟩
  | step _ _ _ q n _ hf hm hR => exact Or.inr ⟨hf, Or.inr ⟨q, n, hm, hR⟩⟩
theorem runB_lt {l : List UInt8} {k : Nat} {f : Bool} {p : Nat → Bool} {R : MR} (h : RunB l k f p R) : ∀ q n, R = .ok q n → k ≤ n ∧ n < l.length := by
  induction h with
  | stop k p hs => intro q n e; injection e with _ e2; have := (isL_lt hs).1; omega
  | bad => intro q n e; cases e
  | step k f p q' n' R hf hm hR ih => intro q n e; have h1 := ih q n e; have h2 := memM_adv hm; omega
end Go.Proofs.Ytfmekmbdienbjaa
