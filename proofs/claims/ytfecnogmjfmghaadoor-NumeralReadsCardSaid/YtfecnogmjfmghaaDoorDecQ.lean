/- The contract of dec.Whole. -/
import Derived.Test.YtfecnogmjfmghaaDoorDecP
namespace Go.Proofs.YtfecnogmjfmghaaDoor
set_option linter.unusedSimpArgs false
set_option linter.unusedVariables false
set_option linter.unnecessarySimpa false
open Go.RowKit

def whB (n : Bool) (q : Nat) : Bool := if n then decide (q ≤ 9223372036854775808) else decide (q < 9223372036854775808)
def whV (n : Bool) (q : Nat) : Int := if whB n q then (if n then -(q : Int) else q) else 0
theorem back_pos {q : Nat} (h : q < 9223372036854775808) : wrap64 ((q : Nat) : Int) = (q : Int) := by
  unfold wrap64; omega
theorem back_neg {q : Nat} (h : q ≤ 9223372036854775808) : wrap64 (IntKind.u64.wrap (-((q : Nat) : Int))) = -(q : Int) := by
  unfold wrap64; rw [IntKind.wrap_u64]; omega

theorem whole_bad (n : Bool) (m : Nat) (h : goodB n m = false) (w : World) :
    Calls Tryd.prog 22 #[MV n m] w fun e w' => e = .returned (.tuple #[.int .i64 0, .bool false]) ∧ Below w.heap.size w w' := by
  have c1 := fun w => good_m n m w
  rw [h] at c1
  have C1 := Lib.hid c1
  clear c1 h
  go_enter Tryd.func22, Tryd.ntmps22
  go_wp2_with fail; refine (C1.out _).mono ?_; rintro ew1 w1 ⟨rfl, hbw1⟩; obtain ⟨hcw1, hfw1⟩ := bcell hbw1; (try simp only [World.size_drew, World.cell?_drew, World.frozen?_drew] at hcw1 hfw1); have hzw1 := hbw1.size; (try simp at hzw1); have : w.heap.size < w1.heap.size := (by omega); (try dsimp only)
  go_wp2
  go_ret2
  refine ⟨rfl, ?_⟩
  repeat (first | (with_reducible exact Below.refl _ _) | (with_reducible refine Below.drew ?_) | (refine Below.setCell ?_ (by first | exact Nat.le_refl _ | (simp; done) | (simp; omega) | omega) _) | (refine Below.alloc ?_ (by first | exact Nat.le_refl _ | (simp; done) | (simp; omega) | omega) _) | (refine Below.trans ?_ (Below.mono (by assumption) (by first | exact Nat.le_refl _ | (simp; done) | (simp; omega) | omega))))

set_option maxRecDepth 100000 in
set_option maxHeartbeats 1000000 in
theorem whole_m (n : Bool) (m : Nat) (hg : goodB n m = true) (w : World) :
    Calls Tryd.prog 22 #[MV n m] w fun e w' => e = .returned (.tuple #[.int .i64 (whV n (m / 1000000)), .bool (whB n (m / 1000000))]) ∧ Below w.heap.size w w' := by
  have hm : m < topN := by unfold goodB at hg; simp at hg; exact hg.1
  have c1 := fun w => good_m n m w
  rw [hg] at c1
  have C1 := Lib.hid c1
  have C3 : Hid (∀ w, Calls Tryd.prog 42 #[MV n m] w fun e w' => e = .returned (QV m) ∧ Below w.heap.size w w') := fun w => widen_m n m (by rw [topN_eq] at hm; omega) w
  have C4 : Hid (∀ w, Calls Tryd.prog 41 #[QV m, .agg #[.bool false, .int .u64 0, .int .u64 1000000]] w fun e w' => e = .returned (.tuple #[QV (m / 1000000), MV false (m % 1000000)]) ∧ Below w.heap.size w w') := by
    intro w
    rw [← million_hi, ← million_lo]
    exact divide_m m 1000000 false (by omega) (by omega) (by rw [topN_eq] at hm; omega) w
  have hq : m / 1000000 < 340282366920938463463374607431768211456 := by rw [topN_eq] at hm; omega
  clear c1 hg hm
  generalize m / 1000000 = q at *
  generalize m % 1000000 = r at *
  by_cases h1 : l1 q = 0
  · have hb : ((l1 q : Int) != 0) = false := by simp; omega
    have hs : q < 18446744073709551616 := by unfold l1 at h1; omega
    have h0 : l0 q = q := by unfold l0; omega
    have H1 := Lib.hid h1
    clear h1 hq
    cases n
    · by_cases ho : q < 9223372036854775808
      · have hd : decide ((9223372036854775807 : Int) < (q : Int)) = false := by simp; omega
        have V : Hid (whV false q = (q : Int)) := by show _ = _; unfold whV whB; simp [ho]
        have B : Hid (whB false q = true) := by show _ = _; unfold whB; simp [ho]
        have E := Lib.hid (back_pos ho)
        clear ho hs
        go_enter Tryd.func22, Tryd.ntmps22
        go_wp2_with fail; refine (C1.out _).mono ?_; rintro ew1 w1 ⟨rfl, hbw1⟩; obtain ⟨hcw1, hfw1⟩ := bcell hbw1; (try simp only [World.size_drew, World.cell?_drew, World.frozen?_drew] at hcw1 hfw1); have hzw1 := hbw1.size; (try simp at hzw1); have : w.heap.size < w1.heap.size := (by omega); (try dsimp only)
        go_wp2_with fail; refine (C3.out _).mono ?_; rintro ew2 w2 ⟨rfl, hbw2⟩; obtain ⟨hcw2, hfw2⟩ := bcell hbw2; (try simp only [World.size_drew, World.cell?_drew, World.frozen?_drew] at hcw2 hfw2); have hzw2 := hbw2.size; (try simp at hzw2); have : w.heap.size < w2.heap.size := (by omega); (try dsimp only)
        go_wp2_with fail; refine (C4.out _).mono ?_; rintro ew3 w3 ⟨rfl, hbw3⟩; obtain ⟨hcw3, hfw3⟩ := bcell hbw3; (try simp only [World.size_drew, World.cell?_drew, World.frozen?_drew] at hcw3 hfw3); have hzw3 := hbw3.size; (try simp at hzw3); have : w.heap.size < w3.heap.size := (by omega); (try dsimp only)
        go_wp2
        go_ret2
        refine ⟨?_, ?_⟩
        · rw [V.out, B.out]; show Ending.returned (.tuple #[.int .i64 (wrap64 ((q : Nat) : Int)), .bool true]) = _; rw [E.out]
        · repeat (first | (with_reducible exact Below.refl _ _) | (with_reducible refine Below.drew ?_) | (refine Below.setCell ?_ (by first | exact Nat.le_refl _ | (simp; done) | (simp; omega) | omega) _) | (refine Below.alloc ?_ (by first | exact Nat.le_refl _ | (simp; done) | (simp; omega) | omega) _) | (refine Below.trans ?_ (Below.mono (by assumption) (by first | exact Nat.le_refl _ | (simp; done) | (simp; omega) | omega))))
      · have hd : decide ((9223372036854775807 : Int) < (q : Int)) = true := by simp; omega
        have V : Hid (whV false q = 0) := by show _ = _; unfold whV whB; simp [ho]
        have B : Hid (whB false q = false) := by show _ = _; unfold whB; simp [ho]
        clear ho hs
        go_enter Tryd.func22, Tryd.ntmps22
        go_wp2_with fail; refine (C1.out _).mono ?_; rintro ew1 w1 ⟨rfl, hbw1⟩; obtain ⟨hcw1, hfw1⟩ := bcell hbw1; (try simp only [World.size_drew, World.cell?_drew, World.frozen?_drew] at hcw1 hfw1); have hzw1 := hbw1.size; (try simp at hzw1); have : w.heap.size < w1.heap.size := (by omega); (try dsimp only)
        go_wp2_with fail; refine (C3.out _).mono ?_; rintro ew2 w2 ⟨rfl, hbw2⟩; obtain ⟨hcw2, hfw2⟩ := bcell hbw2; (try simp only [World.size_drew, World.cell?_drew, World.frozen?_drew] at hcw2 hfw2); have hzw2 := hbw2.size; (try simp at hzw2); have : w.heap.size < w2.heap.size := (by omega); (try dsimp only)
        go_wp2_with fail; refine (C4.out _).mono ?_; rintro ew3 w3 ⟨rfl, hbw3⟩; obtain ⟨hcw3, hfw3⟩ := bcell hbw3; (try simp only [World.size_drew, World.cell?_drew, World.frozen?_drew] at hcw3 hfw3); have hzw3 := hbw3.size; (try simp at hzw3); have : w.heap.size < w3.heap.size := (by omega); (try dsimp only)
        go_wp2
        go_ret2
        refine ⟨?_, ?_⟩
        · rw [V.out, B.out]; rfl
        · repeat (first | (with_reducible exact Below.refl _ _) | (with_reducible refine Below.drew ?_) | (refine Below.setCell ?_ (by first | exact Nat.le_refl _ | (simp; done) | (simp; omega) | omega) _) | (refine Below.alloc ?_ (by first | exact Nat.le_refl _ | (simp; done) | (simp; omega) | omega) _) | (refine Below.trans ?_ (Below.mono (by assumption) (by first | exact Nat.le_refl _ | (simp; done) | (simp; omega) | omega))))
    · by_cases ho : q ≤ 9223372036854775808
      · have hd : decide ((9223372036854775808 : Int) < (q : Int)) = false := by simp; omega
        have V : Hid (whV true q = -(q : Int)) := by show _ = _; unfold whV whB; simp [ho]
        have B : Hid (whB true q = true) := by show _ = _; unfold whB; simp [ho]
        have E := Lib.hid (back_neg ho)
        clear ho hs
        go_enter Tryd.func22, Tryd.ntmps22
        go_wp2_with fail; refine (C1.out _).mono ?_; rintro ew1 w1 ⟨rfl, hbw1⟩; obtain ⟨hcw1, hfw1⟩ := bcell hbw1; (try simp only [World.size_drew, World.cell?_drew, World.frozen?_drew] at hcw1 hfw1); have hzw1 := hbw1.size; (try simp at hzw1); have : w.heap.size < w1.heap.size := (by omega); (try dsimp only)
        go_wp2_with fail; refine (C3.out _).mono ?_; rintro ew2 w2 ⟨rfl, hbw2⟩; obtain ⟨hcw2, hfw2⟩ := bcell hbw2; (try simp only [World.size_drew, World.cell?_drew, World.frozen?_drew] at hcw2 hfw2); have hzw2 := hbw2.size; (try simp at hzw2); have : w.heap.size < w2.heap.size := (by omega); (try dsimp only)
        go_wp2_with fail; refine (C4.out _).mono ?_; rintro ew3 w3 ⟨rfl, hbw3⟩; obtain ⟨hcw3, hfw3⟩ := bcell hbw3; (try simp only [World.size_drew, World.cell?_drew, World.frozen?_drew] at hcw3 hfw3); have hzw3 := hbw3.size; (try simp at hzw3); have : w.heap.size < w3.heap.size := (by omega); (try dsimp only)
        go_wp2
        go_ret2
        refine ⟨?_, ?_⟩
        · rw [V.out, B.out]; show Ending.returned (.tuple #[.int .i64 (wrap64 (IntKind.u64.wrap (-((q : Nat) : Int)))), .bool true]) = _; rw [E.out]
        · repeat (first | (with_reducible exact Below.refl _ _) | (with_reducible refine Below.drew ?_) | (refine Below.setCell ?_ (by first | exact Nat.le_refl _ | (simp; done) | (simp; omega) | omega) _) | (refine Below.alloc ?_ (by first | exact Nat.le_refl _ | (simp; done) | (simp; omega) | omega) _) | (refine Below.trans ?_ (Below.mono (by assumption) (by first | exact Nat.le_refl _ | (simp; done) | (simp; omega) | omega))))
      · have hd : decide ((9223372036854775808 : Int) < (q : Int)) = true := by simp; omega
        have V : Hid (whV true q = 0) := by show _ = _; unfold whV whB; simp [ho]
        have B : Hid (whB true q = false) := by show _ = _; unfold whB; simp [ho]
        clear ho hs
        go_enter Tryd.func22, Tryd.ntmps22
        go_wp2_with fail; refine (C1.out _).mono ?_; rintro ew1 w1 ⟨rfl, hbw1⟩; obtain ⟨hcw1, hfw1⟩ := bcell hbw1; (try simp only [World.size_drew, World.cell?_drew, World.frozen?_drew] at hcw1 hfw1); have hzw1 := hbw1.size; (try simp at hzw1); have : w.heap.size < w1.heap.size := (by omega); (try dsimp only)
        go_wp2_with fail; refine (C3.out _).mono ?_; rintro ew2 w2 ⟨rfl, hbw2⟩; obtain ⟨hcw2, hfw2⟩ := bcell hbw2; (try simp only [World.size_drew, World.cell?_drew, World.frozen?_drew] at hcw2 hfw2); have hzw2 := hbw2.size; (try simp at hzw2); have : w.heap.size < w2.heap.size := (by omega); (try dsimp only)
        go_wp2_with fail; refine (C4.out _).mono ?_; rintro ew3 w3 ⟨rfl, hbw3⟩; obtain ⟨hcw3, hfw3⟩ := bcell hbw3; (try simp only [World.size_drew, World.cell?_drew, World.frozen?_drew] at hcw3 hfw3); have hzw3 := hbw3.size; (try simp at hzw3); have : w.heap.size < w3.heap.size := (by omega); (try dsimp only)
        go_wp2
        go_ret2
        refine ⟨?_, ?_⟩
        · rw [V.out, B.out]; rfl
        · repeat (first | (with_reducible exact Below.refl _ _) | (with_reducible refine Below.drew ?_) | (refine Below.setCell ?_ (by first | exact Nat.le_refl _ | (simp; done) | (simp; omega) | omega) _) | (refine Below.alloc ?_ (by first | exact Nat.le_refl _ | (simp; done) | (simp; omega) | omega) _) | (refine Below.trans ?_ (Below.mono (by assumption) (by first | exact Nat.le_refl _ | (simp; done) | (simp; omega) | omega))))
  · have hb : ((l1 q : Int) != 0) = true := by simp; omega
    have hs : 18446744073709551616 ≤ q := by unfold l1 at h1; omega
    have V : Hid (whV n q = 0) := by show _ = _; unfold whV whB; split <;> simp_all <;> omega
    have B : Hid (whB n q = false) := by show _ = _; unfold whB; split <;> simp <;> omega
    have H1 := Lib.hid h1
    clear h1 hq hs
    cases n
    all_goals
      go_enter Tryd.func22, Tryd.ntmps22
      go_wp2_with fail; refine (C1.out _).mono ?_; rintro ew1 w1 ⟨rfl, hbw1⟩; obtain ⟨hcw1, hfw1⟩ := bcell hbw1; (try simp only [World.size_drew, World.cell?_drew, World.frozen?_drew] at hcw1 hfw1); have hzw1 := hbw1.size; (try simp at hzw1); have : w.heap.size < w1.heap.size := (by omega); (try dsimp only)
      go_wp2_with fail; refine (C3.out _).mono ?_; rintro ew2 w2 ⟨rfl, hbw2⟩; obtain ⟨hcw2, hfw2⟩ := bcell hbw2; (try simp only [World.size_drew, World.cell?_drew, World.frozen?_drew] at hcw2 hfw2); have hzw2 := hbw2.size; (try simp at hzw2); have : w.heap.size < w2.heap.size := (by omega); (try dsimp only)
      go_wp2_with fail; refine (C4.out _).mono ?_; rintro ew3 w3 ⟨rfl, hbw3⟩; obtain ⟨hcw3, hfw3⟩ := bcell hbw3; (try simp only [World.size_drew, World.cell?_drew, World.frozen?_drew] at hcw3 hfw3); have hzw3 := hbw3.size; (try simp at hzw3); have : w.heap.size < w3.heap.size := (by omega); (try dsimp only)
      go_wp2
      go_ret2
      refine ⟨?_, ?_⟩
      · rw [V.out, B.out]; rfl
      · repeat (first | (with_reducible exact Below.refl _ _) | (with_reducible refine Below.drew ?_) | (refine Below.setCell ?_ (by first | exact Nat.le_refl _ | (simp; done) | (simp; omega) | omega) _) | (refine Below.alloc ?_ (by first | exact Nat.le_refl _ | (simp; done) | (simp; omega) | omega) _) | (refine Below.trans ?_ (Below.mono (by assumption) (by first | exact Nat.le_refl _ | (simp; done) | (simp; omega) | omega))))
end Go.Proofs.YtfecnogmjfmghaaDoor
