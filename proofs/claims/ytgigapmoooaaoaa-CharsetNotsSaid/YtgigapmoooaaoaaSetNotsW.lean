/- The walk of CharsetNots, whole. -/
import Derived.Test.YtgigapmoooaaoaaSetNots
namespace Go.Proofs.Ytgigapmoooaaoaa
set_option linter.unusedSimpArgs false
set_option linter.unusedVariables false
set_option linter.unnecessarySimpa false
open Go.RowKit

set_option maxRecDepth 100000 in
set_option maxHeartbeats 8000000 in
theorem nots_early (v : Value) (l : List UInt8) (w : World) (h : BS w v l) (hM : HM w) (he : 200 < l.length ∨ l.length < 2 ∨ l.getD 0 0 ≠ 91 ∨ l.getD 1 0 = 94) :
    Calls Try.prog 5 #[v] w fun e w' => e = .returned (.bool true) ∧ Below w.heap.size w w' := by
  have HA : Hid (Calls Try.prog 8 #[] w fun e w' => e = .returned (.bool true) ∧ Below w.heap.size w w') := awake3 w hM
  obtain ⟨p, c, rfl, hlc, hcm, hU⟩ := h
  have HU := Lib.hid hU
  clear hM hU
  by_cases h1 : 200 < l.length
  · have t1 : decide ((200 : Int) < (l.length : Int)) = true := decide_eq_true (by omega)
    go_enter Try.func5, Try.ntmps5
    go_wp2_with fail
    refine (HA.out).mono ?_; rintro eu2 u2 ⟨rfl, hbu2⟩; obtain ⟨hcu2, hfu2⟩ := bcell hbu2; (try simp only [World.size_drew, World.cell?_drew, World.frozen?_drew] at hcu2 hfu2); have hzu2 := hbu2.size; (try simp at hzu2); (try dsimp only)
    go_wp2
    go_ret
    exact ⟨rfl, hbu2⟩
  · have t1 : decide ((200 : Int) < (l.length : Int)) = false := decide_eq_false (by omega)
    by_cases h2 : l.length < 2
    · have t2 : decide ((l.length : Int) < 2) = true := decide_eq_true (by omega)
      clear he
      go_enter Try.func5, Try.ntmps5
      go_wp2_with fail
      refine (HA.out).mono ?_; rintro eu2 u2 ⟨rfl, hbu2⟩; obtain ⟨hcu2, hfu2⟩ := bcell hbu2; (try simp only [World.size_drew, World.cell?_drew, World.frozen?_drew] at hcu2 hfu2); have hzu2 := hbu2.size; (try simp at hzu2); (try dsimp only)
      go_wp2
      go_ret
      exact ⟨rfl, hbu2⟩
    · have t2 : decide ((l.length : Int) < 2) = false := decide_eq_false (by omega)
      obtain ⟨bk, off, rfl, hbb, hcs⟩ := HU.out (by rintro rfl; simp at h2)
      have k0 := hcs 0 (by omega)
      have k1 := hcs 1 (by omega)
      rw [Nat.add_zero] at k0
      have l0 : (0 : Int) < (l.length : Int) := by omega
      have l1 : (1 : Int) < (l.length : Int) := by omega
      by_cases h3 : l.getD 0 0 = 91
      · have h4 : l.getD 1 0 = 94 := by
          rcases he with h | h | h | h
          · exact absurd h h1
          · exact absurd h h2
          · exact absurd h3 h
          · exact h
        rw [h3, show bv 91 = .int .u8 91 from rfl] at k0
        rw [h4, show bv 94 = .int .u8 94 from rfl] at k1
        clear he h3 h4 hcs HU
        go_enter Try.func5, Try.ntmps5
        go_wp2_with fail
        refine (HA.out).mono ?_; rintro eu2 u2 ⟨rfl, hbu2⟩; obtain ⟨hcu2, hfu2⟩ := bcell hbu2; (try simp only [World.size_drew, World.cell?_drew, World.frozen?_drew] at hcu2 hfu2); have hzu2 := hbu2.size; (try simp at hzu2); (try dsimp only)
        have hbk2 : bk < u2.heap.size := by omega
        go_wp2
        go_ret
        exact ⟨rfl, hbu2⟩
      · have t3 : (((l.getD 0 0).toNat : Int) == 91) = false := by
          rw [beq_eq_false_iff_ne]; intro e; exact h3 (UInt8.toNat_inj.1 (by show _ = 91; omega))
        have t4 : (((l.getD 0 0).toNat : Int) != 91) = true := by rw [bne, t3]; rfl
        clear he h3 hcs HU k1
        unfold bv at k0
        generalize (l.getD 0 0).toNat = y at *
        go_enter Try.func5, Try.ntmps5
        go_wp2_with fail
        refine (HA.out).mono ?_; rintro eu2 u2 ⟨rfl, hbu2⟩; obtain ⟨hcu2, hfu2⟩ := bcell hbu2; (try simp only [World.size_drew, World.cell?_drew, World.frozen?_drew] at hcu2 hfu2); have hzu2 := hbu2.size; (try simp at hzu2); (try dsimp only)
        have hbk2 : bk < u2.heap.size := by omega
        go_wp2
        go_ret
        exact ⟨rfl, hbu2⟩
theorem nots_w {v : Value} {l : List UInt8} {w : World} (h : BS w v l) (hM : HM w) :
    Calls Try.prog 5 #[v] w fun e w' => e = .returned (.bool true) ∧ Below w.heap.size w w' := by
  by_cases he : 200 < l.length ∨ l.length < 2 ∨ l.getD 0 0 ≠ 91 ∨ l.getD 1 0 = 94
  · exact nots_early v l w h hM he
  · obtain ⟨y, x, r, rfl⟩ : ∃ y x r, l = y :: x :: r := by
      rcases l with _ | ⟨y, _ | ⟨x, r⟩⟩
      · simp at he
      · simp at he
      · exact ⟨y, x, r, rfl⟩
    have hy : y = 91 := by
      rcases Decidable.em (y = 91) with h | h
      · exact h
      · exact absurd (Or.inr (Or.inr (Or.inl h))) he
    have hx : x ≠ 94 := fun h => he (Or.inr (Or.inr (Or.inr h)))
    have hl : (y :: x :: r).length ≤ 200 := by
      rcases Nat.lt_or_ge 200 (y :: x :: r).length with h | h
      · exact absurd (Or.inl h) he
      · exact h
    subst hy
    have hl2 : r.length ≤ 198 := by simp at hl; omega
    have H := Lib.hid h
    obtain ⟨p, c, rfl, hlc, hcm, hU⟩ := h
    obtain ⟨bk, off, rfl, hbb, hcs⟩ := hU (by simp)
    have k0 := hcs 0 (by simp)
    have k1 := hcs 1 (by simp)
    rw [Nat.add_zero] at k0
    have i0 : isL (91 :: x :: r) 0 91 = true := by simp [isL]
    have i1 : isL (91 :: x :: r) (0 + 1) 94 = false := by
      unfold isL
      rw [show (91 :: x :: r).getD (0 + 1) 0 = x from rfl, beq_eq_false_iff_ne.2 hx, Bool.and_false]
    have j0 : isL (91 :: 94 :: x :: r) 0 91 = true := by simp [isL]
    have j1 : isL (91 :: 94 :: x :: r) (0 + 1) 94 = true := by simp [isL]
    obtain ⟨R, hR⟩ := runB_ex (91 :: x :: r) _ 1 (Nat.le_refl _) (by simp) true nonP
    have hR2 := runB_cc 91 94 (x :: r) hR (Nat.le_refl _)
    have hR1 : RunB (91 :: x :: r) (begB (91 :: x :: r) 0) true nonP R := by unfold begB; rw [i1]; exact hR
    have hR2' : RunB (91 :: 94 :: x :: r) (begB (91 :: 94 :: x :: r) 0) true nonP (upR R) := by unfold begB; rw [j1]; exact hR2
    have b1 := fun (W : World) (hW : Below w.heap.size w W) => brk_u (H.out.on hW) (by simp at hl ⊢; omega) (hM.on hW) 0 i0 R hR1
    have b2 := fun (W : World) (u : Value) (hW : HM W) (hu : BS W u (91 :: 94 :: x :: r)) => brk_u hu (by simp at hl ⊢; omega) hW 0 j0 (upR R) hR2'
    rw [i1] at b1
    rw [j1] at b2
    cases R with
    | bad a e =>
      refine nots_bad r x bk off c w hM (fun W h => awake3 W h) hl2 H.out hx hbb k0 k1 (fun W hW => ?_) (fun W u hW hu => ?_)
      · refine (b1 W hW).mono ?_
        rintro e w' ⟨b, e1, _, _, hb⟩
        exact ⟨⟨b, e1⟩, hb⟩
      · refine (b2 W u hW hu).mono ?_
        rintro e w' ⟨b, e1, _, _, hb⟩
        exact ⟨⟨b, e1⟩, hb⟩
    | ok P n =>
      have hn := (runB_lt hR P n rfl).2
      have hn' : n ≤ 200 := by simp at hn hl; omega
      refine nots_ok P (fun z => !P z) (n + 1) r x bk off c w hM (fun W h => awake3 W h) hl2 H.out hx hbb k0 k1 (by omega) (fun W hW => ?_) (fun W u hW hu => ?_) (fun W => not_u P W) (eql_set _ _ rfl)
      · refine (b1 W hW).mono ?_
        rintro e w' ⟨e1, hb⟩
        exact ⟨by rw [e1]; simp [turnP], hb⟩
      · refine (b2 W u hW hu).mono ?_
        rintro e w' ⟨e1, hb⟩
        exact ⟨by rw [e1]; simp [turnP], hb⟩
end Go.Proofs.Ytgigapmoooaaoaa
