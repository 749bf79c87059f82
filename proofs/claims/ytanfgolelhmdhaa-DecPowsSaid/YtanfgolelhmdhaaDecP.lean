/- The contracts of dec.Int, dec.less, dec.Cmp, dec.Whole. -/
import Derived.Test.YtanfgolelhmdhaaDecL
namespace Go.Proofs.Ytanfgolelhmdhaa
set_option linter.unusedSimpArgs false
set_option linter.unusedVariables false
set_option linter.unnecessarySimpa false
open Go.RowKit

def i64B (n : Int) : Prop := -9223372036854775808 ≤ n ∧ n ≤ 9223372036854775807
theorem ones_wrap {n : Int} (h : i64B n) (hn : 0 ≤ n) : IntKind.u64.wrap n = ((n.natAbs : Nat) : Int) := by
  unfold i64B at h; rw [IntKind.wrap_u64]; omega
theorem ones_neg {n : Int} (h : i64B n) (hn : n < 0) : IntKind.u64.wrap (-IntKind.u64.wrap n) = ((n.natAbs : Nat) : Int) := by
  unfold i64B at h; simp only [IntKind.wrap_u64]; omega
theorem int_lt {n : Int} (h : i64B n) : (n * 1000000).natAbs < topN := by
  unfold i64B at h; rw [topN_eq]; omega
theorem int_hi (n : Int) : mulH n.natAbs 1000000 = hiN (n * 1000000).natAbs := by
  unfold mulH hiN; rw [Int.natAbs_mul]; rfl
theorem int_lo (n : Int) : mulL n.natAbs 1000000 = loN (n * 1000000).natAbs := by
  unfold mulL loN; rw [Int.natAbs_mul]; rfl
theorem int_sgn (n : Int) : decide (n < 0) = negZ (n * 1000000) := by
  unfold negZ; rw [decide_eq_decide]; omega

theorem int_z (n : Int) (h : i64B n) (w : World) :
    Calls Try.prog 32 #[.int .i64 n] w fun e w' => e = .returned (ZV (n * 1000000)) ∧ Below w.heap.size w w' := by
  have C1 : Hid (∀ w, Calls Try.prog 61 #[.int .u64 ((n.natAbs : Nat) : Int), .int .u64 1000000] w fun e w' => e = .returned (.tuple #[.int .u64 (hiN (n * 1000000).natAbs : Nat), .int .u64 (loN (n * 1000000).natAbs : Nat)]) ∧ w = w') := by
    intro w
    rw [← int_hi, ← int_lo]
    exact mul64 n.natAbs 1000000 (by unfold i64B at h; omega) (by omega) w
  have S := Lib.hid (int_sgn n)
  by_cases hn : n < 0
  · have E := Lib.hid (ones_neg h hn)
    clear h
    go_enter Try.func32, Try.ntmps32
    go_wp2_with fail
    simp only [E.out]
    refine (C1.out _).mono ?_; rintro e w1 ⟨rfl, rfl⟩
    go_wp2
    refine bodyPost_ret (v := .agg #[.bool true, .int .u64 (hiN (n * 1000000).natAbs : Nat), .int .u64 (loN (n * 1000000).natAbs : Nat)]) (by simp [results, Try.results32, go_sem, *]) rfl ⟨ret_dv (by rw [← S.out]; exact (decide_eq_true hn).symm) rfl rfl, ?_⟩
    repeat (first | (with_reducible exact Below.refl _ _) | (with_reducible refine Below.drew ?_) | (refine Below.setCell ?_ (by first | exact Nat.le_refl _ | (simp; done) | (simp; omega) | omega) _) | (refine Below.alloc ?_ (by first | exact Nat.le_refl _ | (simp; done) | (simp; omega) | omega) _) | (refine Below.trans ?_ (Below.mono (by assumption) (by first | exact Nat.le_refl _ | (simp; done) | (simp; omega) | omega))))
  · have E := Lib.hid (ones_wrap h (by omega))
    clear h
    go_enter Try.func32, Try.ntmps32
    go_wp2_with fail
    simp only [E.out]
    refine (C1.out _).mono ?_; rintro e w1 ⟨rfl, rfl⟩
    go_wp2
    refine bodyPost_ret (v := .agg #[.bool false, .int .u64 (hiN (n * 1000000).natAbs : Nat), .int .u64 (loN (n * 1000000).natAbs : Nat)]) (by simp [results, Try.results32, go_sem, *]) rfl ⟨ret_dv (by rw [← S.out]; exact (decide_eq_false (by omega)).symm) rfl rfl, ?_⟩
    repeat (first | (with_reducible exact Below.refl _ _) | (with_reducible refine Below.drew ?_) | (refine Below.setCell ?_ (by first | exact Nat.le_refl _ | (simp; done) | (simp; omega) | omega) _) | (refine Below.alloc ?_ (by first | exact Nat.le_refl _ | (simp; done) | (simp; omega) | omega) _) | (refine Below.trans ?_ (Below.mono (by assumption) (by first | exact Nat.le_refl _ | (simp; done) | (simp; omega) | omega))))

/-! ## less, Cmp -/
theorem less_m (n n' : Bool) (m m' : Nat) (w : World) :
    Calls Try.prog 45 #[MV n m, MV n' m'] w fun e w' => e = .returned (.bool (match n, n' with | true, false => true | false, true => false | false, false => decide (m < m') | true, true => decide (m' < m))) ∧ Below w.heap.size w w' := by
  cases n <;> cases n'
  · have C1 := Lib.hid (below_m false false m m')
    go_enter Try.func45, Try.ntmps45
    go_wp2_with fail; refine (C1.out _).mono ?_; rintro ew1 w1 ⟨rfl, hbw1⟩; obtain ⟨hcw1, hfw1⟩ := bcell hbw1; (try simp only [World.size_drew, World.cell?_drew, World.frozen?_drew] at hcw1 hfw1); have hzw1 := hbw1.size; (try simp at hzw1); have : w.heap.size < w1.heap.size := (by omega); have : w.heap.size + 1 < w1.heap.size := (by omega); (try dsimp only)
    go_wp2
    go_ret
    refine ⟨rfl, ?_⟩
    repeat (first | (with_reducible exact Below.refl _ _) | (with_reducible refine Below.drew ?_) | (refine Below.setCell ?_ (by first | exact Nat.le_refl _ | (simp; done) | (simp; omega) | omega) _) | (refine Below.alloc ?_ (by first | exact Nat.le_refl _ | (simp; done) | (simp; omega) | omega) _) | (refine Below.trans ?_ (Below.mono (by assumption) (by first | exact Nat.le_refl _ | (simp; done) | (simp; omega) | omega))))
  · go_enter Try.func45, Try.ntmps45
    go_wp2
    go_ret
    refine ⟨rfl, ?_⟩
    repeat (first | (with_reducible exact Below.refl _ _) | (with_reducible refine Below.drew ?_) | (refine Below.setCell ?_ (by first | exact Nat.le_refl _ | (simp; done) | (simp; omega) | omega) _) | (refine Below.alloc ?_ (by first | exact Nat.le_refl _ | (simp; done) | (simp; omega) | omega) _) | (refine Below.trans ?_ (Below.mono (by assumption) (by first | exact Nat.le_refl _ | (simp; done) | (simp; omega) | omega))))
  · go_enter Try.func45, Try.ntmps45
    go_wp2
    go_ret
    refine ⟨rfl, ?_⟩
    repeat (first | (with_reducible exact Below.refl _ _) | (with_reducible refine Below.drew ?_) | (refine Below.setCell ?_ (by first | exact Nat.le_refl _ | (simp; done) | (simp; omega) | omega) _) | (refine Below.alloc ?_ (by first | exact Nat.le_refl _ | (simp; done) | (simp; omega) | omega) _) | (refine Below.trans ?_ (Below.mono (by assumption) (by first | exact Nat.le_refl _ | (simp; done) | (simp; omega) | omega))))
  · have C1 := Lib.hid (below_m true true m' m)
    go_enter Try.func45, Try.ntmps45
    go_wp2_with fail; refine (C1.out _).mono ?_; rintro ew1 w1 ⟨rfl, hbw1⟩; obtain ⟨hcw1, hfw1⟩ := bcell hbw1; (try simp only [World.size_drew, World.cell?_drew, World.frozen?_drew] at hcw1 hfw1); have hzw1 := hbw1.size; (try simp at hzw1); have : w.heap.size < w1.heap.size := (by omega); have : w.heap.size + 1 < w1.heap.size := (by omega); (try dsimp only)
    go_wp2
    go_ret
    refine ⟨rfl, ?_⟩
    repeat (first | (with_reducible exact Below.refl _ _) | (with_reducible refine Below.drew ?_) | (refine Below.setCell ?_ (by first | exact Nat.le_refl _ | (simp; done) | (simp; omega) | omega) _) | (refine Below.alloc ?_ (by first | exact Nat.le_refl _ | (simp; done) | (simp; omega) | omega) _) | (refine Below.trans ?_ (Below.mono (by assumption) (by first | exact Nat.le_refl _ | (simp; done) | (simp; omega) | omega))))
theorem less_z (x y : Int) (w : World) :
    Calls Try.prog 45 #[ZV x, ZV y] w fun e w' => e = .returned (.bool (decide (x < y))) ∧ Below w.heap.size w w' := by
  refine (less_m (negZ x) (negZ y) x.natAbs y.natAbs w).mono ?_
  rintro e w' ⟨rfl, hb⟩
  refine ⟨ret_bool ?_, hb⟩
  by_cases hx : x < 0 <;> by_cases hy : y < 0
  · have e1 : negZ x = true := decide_eq_true hx
    have e2 : negZ y = true := decide_eq_true hy
    rw [e1, e2]; show decide _ = decide _; rw [decide_eq_decide]; omega
  · have e1 : negZ x = true := decide_eq_true hx
    have e2 : negZ y = false := decide_eq_false hy
    rw [e1, e2]; show true = decide _; rw [eq_comm, decide_eq_true_eq]; omega
  · have e1 : negZ x = false := decide_eq_false hx
    have e2 : negZ y = true := decide_eq_true hy
    rw [e1, e2]; show false = decide _; rw [eq_comm, decide_eq_false_iff_not]; omega
  · have e1 : negZ x = false := decide_eq_false hx
    have e2 : negZ y = false := decide_eq_false hy
    rw [e1, e2]; show decide _ = decide _; rw [decide_eq_decide]; omega

def cmpZ (x y : Int) : Int := if x = y then 0 else if x < y then -1 else 1
theorem eqM_z (x y : Int) : eqM (negZ x) x.natAbs (negZ y) y.natAbs = decide (x = y) := by
  unfold eqM negZ
  by_cases h : x = y
  · subst h; simp
  · simp only [h, decide_false, Bool.and_eq_false_iff, beq_eq_false_iff_ne, decide_eq_false_iff_not]
    by_cases h2 : x.natAbs = y.natAbs
    · left; intro e; rw [decide_eq_decide] at e; omega
    · right; exact h2

theorem cmp_z (x y : Int) (hx : x.natAbs < topN) (hy : y.natAbs < topN) (w : World) :
    Calls Try.prog 18 #[ZV x, ZV y] w fun e w' => e = .returned (.int .i64 (cmpZ x y)) ∧ Below w.heap.size w w' := by
  have he := eql_mm (negZ x) (negZ y) x.natAbs y.natAbs
  rw [eqM_z] at he
  have C1 := Lib.hid (good_z' hx)
  have C2 := Lib.hid (good_z' hy)
  have C3 := Lib.hid (less_z x y)
  clear hx hy
  by_cases h : x = y
  · have hd : decide (x = y) = true := by simpa using h
    have Z : Hid (cmpZ x y = 0) := by show _ = _; unfold cmpZ; rw [if_pos h]
    rw [hd] at he
    clear h hd C3
    go_enter Try.func18, Try.ntmps18
    go_wp2_with fail; refine (C1.out _).mono ?_; rintro ew1 w1 ⟨rfl, hbw1⟩; obtain ⟨hcw1, hfw1⟩ := bcell hbw1; (try simp only [World.size_drew, World.cell?_drew, World.frozen?_drew] at hcw1 hfw1); have hzw1 := hbw1.size; (try simp at hzw1); have : w.heap.size < w1.heap.size := (by omega); have : w.heap.size + 1 < w1.heap.size := (by omega); (try dsimp only)
    go_wp2_with fail; refine (C2.out _).mono ?_; rintro ew2 w2 ⟨rfl, hbw2⟩; obtain ⟨hcw2, hfw2⟩ := bcell hbw2; (try simp only [World.size_drew, World.cell?_drew, World.frozen?_drew] at hcw2 hfw2); have hzw2 := hbw2.size; (try simp at hzw2); have : w.heap.size < w2.heap.size := (by omega); have : w.heap.size + 1 < w2.heap.size := (by omega); (try dsimp only)
    go_wp2
    go_ret
    refine ⟨by rw [Z.out]; rfl, ?_⟩
    repeat (first | (with_reducible exact Below.refl _ _) | (with_reducible refine Below.drew ?_) | (refine Below.setCell ?_ (by first | exact Nat.le_refl _ | (simp; done) | (simp; omega) | omega) _) | (refine Below.alloc ?_ (by first | exact Nat.le_refl _ | (simp; done) | (simp; omega) | omega) _) | (refine Below.trans ?_ (Below.mono (by assumption) (by first | exact Nat.le_refl _ | (simp; done) | (simp; omega) | omega))))
  · have hd : decide (x = y) = false := by simpa using h
    rw [hd] at he
    by_cases hl : x < y
    · have hdl : decide (x < y) = true := by simpa using hl
      have Z : Hid (cmpZ x y = -1) := by show _ = _; unfold cmpZ; rw [if_neg h, if_pos hl]
      rw [hdl] at C3
      clear h hd hl hdl
      go_enter Try.func18, Try.ntmps18
      go_wp2_with fail; refine (C1.out _).mono ?_; rintro ew1 w1 ⟨rfl, hbw1⟩; obtain ⟨hcw1, hfw1⟩ := bcell hbw1; (try simp only [World.size_drew, World.cell?_drew, World.frozen?_drew] at hcw1 hfw1); have hzw1 := hbw1.size; (try simp at hzw1); have : w.heap.size < w1.heap.size := (by omega); have : w.heap.size + 1 < w1.heap.size := (by omega); (try dsimp only)
      go_wp2_with fail; refine (C2.out _).mono ?_; rintro ew2 w2 ⟨rfl, hbw2⟩; obtain ⟨hcw2, hfw2⟩ := bcell hbw2; (try simp only [World.size_drew, World.cell?_drew, World.frozen?_drew] at hcw2 hfw2); have hzw2 := hbw2.size; (try simp at hzw2); have : w.heap.size < w2.heap.size := (by omega); have : w.heap.size + 1 < w2.heap.size := (by omega); (try dsimp only)
      go_wp2_with fail; refine (C3.out _).mono ?_; rintro ew3 w3 ⟨rfl, hbw3⟩; obtain ⟨hcw3, hfw3⟩ := bcell hbw3; (try simp only [World.size_drew, World.cell?_drew, World.frozen?_drew] at hcw3 hfw3); have hzw3 := hbw3.size; (try simp at hzw3); have : w.heap.size < w3.heap.size := (by omega); have : w.heap.size + 1 < w3.heap.size := (by omega); (try dsimp only)
      go_wp2
      go_ret
      refine ⟨by rw [Z.out]; rfl, ?_⟩
      repeat (first | (with_reducible exact Below.refl _ _) | (with_reducible refine Below.drew ?_) | (refine Below.setCell ?_ (by first | exact Nat.le_refl _ | (simp; done) | (simp; omega) | omega) _) | (refine Below.alloc ?_ (by first | exact Nat.le_refl _ | (simp; done) | (simp; omega) | omega) _) | (refine Below.trans ?_ (Below.mono (by assumption) (by first | exact Nat.le_refl _ | (simp; done) | (simp; omega) | omega))))
    · have hdl : decide (x < y) = false := by simpa using hl
      have Z : Hid (cmpZ x y = 1) := by show _ = _; unfold cmpZ; rw [if_neg h, if_neg hl]
      rw [hdl] at C3
      clear h hd hl hdl
      go_enter Try.func18, Try.ntmps18
      go_wp2_with fail; refine (C1.out _).mono ?_; rintro ew1 w1 ⟨rfl, hbw1⟩; obtain ⟨hcw1, hfw1⟩ := bcell hbw1; (try simp only [World.size_drew, World.cell?_drew, World.frozen?_drew] at hcw1 hfw1); have hzw1 := hbw1.size; (try simp at hzw1); have : w.heap.size < w1.heap.size := (by omega); have : w.heap.size + 1 < w1.heap.size := (by omega); (try dsimp only)
      go_wp2_with fail; refine (C2.out _).mono ?_; rintro ew2 w2 ⟨rfl, hbw2⟩; obtain ⟨hcw2, hfw2⟩ := bcell hbw2; (try simp only [World.size_drew, World.cell?_drew, World.frozen?_drew] at hcw2 hfw2); have hzw2 := hbw2.size; (try simp at hzw2); have : w.heap.size < w2.heap.size := (by omega); have : w.heap.size + 1 < w2.heap.size := (by omega); (try dsimp only)
      go_wp2_with fail; refine (C3.out _).mono ?_; rintro ew3 w3 ⟨rfl, hbw3⟩; obtain ⟨hcw3, hfw3⟩ := bcell hbw3; (try simp only [World.size_drew, World.cell?_drew, World.frozen?_drew] at hcw3 hfw3); have hzw3 := hbw3.size; (try simp at hzw3); have : w.heap.size < w3.heap.size := (by omega); have : w.heap.size + 1 < w3.heap.size := (by omega); (try dsimp only)
      go_wp2
      go_ret
      refine ⟨by rw [Z.out]; rfl, ?_⟩
      repeat (first | (with_reducible exact Below.refl _ _) | (with_reducible refine Below.drew ?_) | (refine Below.setCell ?_ (by first | exact Nat.le_refl _ | (simp; done) | (simp; omega) | omega) _) | (refine Below.alloc ?_ (by first | exact Nat.le_refl _ | (simp; done) | (simp; omega) | omega) _) | (refine Below.trans ?_ (Below.mono (by assumption) (by first | exact Nat.le_refl _ | (simp; done) | (simp; omega) | omega))))

theorem cmp_bad (n n' : Bool) (m m' : Nat) (h : (goodB n m && goodB n' m') = false) (w : World) :
    Calls Try.prog 18 #[MV n m, MV n' m'] w fun e w' => e = .returned (.int .i64 0) ∧ Below w.heap.size w w' := by
  by_cases h1 : goodB n m = true
  · have h2 : goodB n' m' = false := by rw [h1] at h; simpa using h
    have c1 := fun w => good_m n m w
    have c2 := fun w => good_m n' m' w
    rw [h1] at c1
    rw [h2] at c2
    have C1 := Lib.hid c1
    have C2 := Lib.hid c2
    clear c1 c2 h1 h2 h
    go_enter Try.func18, Try.ntmps18
    go_wp2_with fail; refine (C1.out _).mono ?_; rintro ew1 w1 ⟨rfl, hbw1⟩; obtain ⟨hcw1, hfw1⟩ := bcell hbw1; (try simp only [World.size_drew, World.cell?_drew, World.frozen?_drew] at hcw1 hfw1); have hzw1 := hbw1.size; (try simp at hzw1); have : w.heap.size < w1.heap.size := (by omega); have : w.heap.size + 1 < w1.heap.size := (by omega); (try dsimp only)
    go_wp2_with fail; refine (C2.out _).mono ?_; rintro ew2 w2 ⟨rfl, hbw2⟩; obtain ⟨hcw2, hfw2⟩ := bcell hbw2; (try simp only [World.size_drew, World.cell?_drew, World.frozen?_drew] at hcw2 hfw2); have hzw2 := hbw2.size; (try simp at hzw2); have : w.heap.size < w2.heap.size := (by omega); have : w.heap.size + 1 < w2.heap.size := (by omega); (try dsimp only)
    go_wp2
    go_ret
    refine ⟨rfl, ?_⟩
    repeat (first | (with_reducible exact Below.refl _ _) | (with_reducible refine Below.drew ?_) | (refine Below.setCell ?_ (by first | exact Nat.le_refl _ | (simp; done) | (simp; omega) | omega) _) | (refine Below.alloc ?_ (by first | exact Nat.le_refl _ | (simp; done) | (simp; omega) | omega) _) | (refine Below.trans ?_ (Below.mono (by assumption) (by first | exact Nat.le_refl _ | (simp; done) | (simp; omega) | omega))))
  · have h1' : goodB n m = false := by simpa using h1
    have c1 := fun w => good_m n m w
    rw [h1'] at c1
    have C1 := Lib.hid c1
    clear c1 h1 h1' h
    go_enter Try.func18, Try.ntmps18
    go_wp2_with fail; refine (C1.out _).mono ?_; rintro ew1 w1 ⟨rfl, hbw1⟩; obtain ⟨hcw1, hfw1⟩ := bcell hbw1; (try simp only [World.size_drew, World.cell?_drew, World.frozen?_drew] at hcw1 hfw1); have hzw1 := hbw1.size; (try simp at hzw1); have : w.heap.size < w1.heap.size := (by omega); have : w.heap.size + 1 < w1.heap.size := (by omega); (try dsimp only)
    go_wp2
    go_ret
    refine ⟨rfl, ?_⟩
    repeat (first | (with_reducible exact Below.refl _ _) | (with_reducible refine Below.drew ?_) | (refine Below.setCell ?_ (by first | exact Nat.le_refl _ | (simp; done) | (simp; omega) | omega) _) | (refine Below.alloc ?_ (by first | exact Nat.le_refl _ | (simp; done) | (simp; omega) | omega) _) | (refine Below.trans ?_ (Below.mono (by assumption) (by first | exact Nat.le_refl _ | (simp; done) | (simp; omega) | omega))))
end Go.Proofs.Ytanfgolelhmdhaa
