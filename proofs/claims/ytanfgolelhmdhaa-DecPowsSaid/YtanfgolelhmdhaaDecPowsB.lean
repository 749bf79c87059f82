/- DecPows: not both numbers right. -/
import Derived.Test.YtanfgolelhmdhaaRefD
import Derived.Test.YtanfgolelhmdhaaDecX
import Derived.Test.YtanfgolelhmdhaaDecUnitsB
import Derived.Test.YtanfgolelhmdhaaDecP
import Derived.Test.YtanfgolelhmdhaaDecL
import Derived.Test.YtanfgolelhmdhaaDecJ
import Derived.Test.YtanfgolelhmdhaaDecW
namespace Go.Proofs.Ytanfgolelhmdhaa
set_option linter.unusedSimpArgs false
set_option linter.unusedVariables false
set_option linter.unnecessarySimpa false
open Go.RowKit
set_option maxHeartbeats 4000000 in
theorem pows_bad1 (n n' : Bool) (m m' : Nat) (hm : m < 340282366920938463463374607431768211456) (hm' : m' < 340282366920938463463374607431768211456) (hg : goodB n m = false) (w : World) :
    Calls Try.prog 5 #[MV n m, MV n' m'] w fun e w' => e = .returned (.bool true) ∧ Below w.heap.size w w' := by
  have h1 : (goodB n m && goodB n' m') = false := by rw [hg]; rfl
  have C0 := Lib.hid awake_t
  have A1 : Hid (∀ w, Calls Try.prog 30 #[MV n m, MV n' m'] w fun e w' => e = .returned (.tuple #[ZV 0, errV 1]) ∧ Below w.heap.size w w') := pow_bad n n' m m' h1
  have RG1 : Hid (∀ w, Calls Try.prog 16 #[MV n m] w fun e w' => e = .returned (.bool false) ∧ Below w.heap.size w w') := by
    intro w; have k := rgood_any n m hm w; rw [hg] at k; exact k
  have K1 : Hid (∀ w, Calls Try.prog 17 #[errV 1] w fun e w' => e = .returned (.int .i64 1) ∧ w = w') := code_v 1 (by decide)
  have e1 : ∀ w, (binOp .eql 24 (ZV 0) (.agg #[.bool false, .int .u64 0, .int .u64 0])).run Try.prog w = .ok (.bool true) w := eql_mm false false 0 0
  clear h1 hg hm hm'
  generalize errV 1 = e1v at *
  go_enter Try.func5, Try.ntmps5
  go_wp2_with fail; refine (C0.out _).mono ?_; rintro ew1 w1 ⟨rfl, hbw1⟩; obtain ⟨hcw1, hfw1⟩ := bcell hbw1; (try simp only [World.size_drew, World.cell?_drew, World.frozen?_drew] at hcw1 hfw1); have hzw1 := hbw1.size; (try simp at hzw1); have : w.heap.size < w1.heap.size := (by omega); have : w.heap.size + 1 < w1.heap.size := (by omega); (try dsimp only)
  go_wp2_with fail; refine (A1.out _).mono ?_; rintro ew2 w2 ⟨rfl, hbw2⟩; obtain ⟨hcw2, hfw2⟩ := bcell hbw2; (try simp only [World.size_drew, World.cell?_drew, World.frozen?_drew] at hcw2 hfw2); have hzw2 := hbw2.size; (try simp at hzw2); have : w.heap.size < w2.heap.size := (by omega); have : w.heap.size + 1 < w2.heap.size := (by omega); (try dsimp only)
  go_wp2_with fail; refine (RG1.out _).mono ?_; rintro ew5 w5 ⟨rfl, hbw5⟩; obtain ⟨hcw5, hfw5⟩ := bcell hbw5; (try simp only [World.size_drew, World.cell?_drew, World.frozen?_drew] at hcw5 hfw5); have hzw5 := hbw5.size; (try simp at hzw5); have : w.heap.size < w5.heap.size := (by omega); have : w.heap.size + 1 < w5.heap.size := (by omega); have : w2.heap.size < w5.heap.size := (by omega); (try dsimp only)
  go_wp2_with fail
  refine (K1.out _).mono ?_; rintro ek1 wk1 ⟨rfl, rfl⟩
  go_wp2
  go_ret
  refine ⟨rfl, ?_⟩
  repeat (first | (with_reducible exact Below.refl _ _) | (with_reducible refine Below.drew ?_) | (refine Below.setCell ?_ (by first | exact Nat.le_refl _ | (simp; done) | (simp; omega) | omega) _) | (refine Below.alloc ?_ (by first | exact Nat.le_refl _ | (simp; done) | (simp; omega) | omega) _) | (refine Below.trans ?_ (Below.mono (by assumption) (by first | exact Nat.le_refl _ | (simp; done) | (simp; omega) | omega))))
set_option maxHeartbeats 4000000 in
theorem pows_bad2 (n n' : Bool) (m m' : Nat) (hm : m < 340282366920938463463374607431768211456) (hm' : m' < 340282366920938463463374607431768211456) (hg : goodB n m = true) (hg' : goodB n' m' = false) (w : World) :
    Calls Try.prog 5 #[MV n m, MV n' m'] w fun e w' => e = .returned (.bool true) ∧ Below w.heap.size w w' := by
  have h1 : (goodB n m && goodB n' m') = false := by rw [hg, hg']; rfl
  have C0 := Lib.hid awake_t
  have A1 : Hid (∀ w, Calls Try.prog 30 #[MV n m, MV n' m'] w fun e w' => e = .returned (.tuple #[ZV 0, errV 1]) ∧ Below w.heap.size w w') := pow_bad n n' m m' h1
  have RG1 : Hid (∀ w, Calls Try.prog 16 #[MV n m] w fun e w' => e = .returned (.bool true) ∧ Below w.heap.size w w') := by
    intro w; have k := rgood_any n m hm w; rw [hg] at k; exact k
  have RG2 : Hid (∀ w, Calls Try.prog 16 #[MV n' m'] w fun e w' => e = .returned (.bool false) ∧ Below w.heap.size w w') := by
    intro w; have k := rgood_any n' m' hm' w; rw [hg'] at k; exact k
  have K1 : Hid (∀ w, Calls Try.prog 17 #[errV 1] w fun e w' => e = .returned (.int .i64 1) ∧ w = w') := code_v 1 (by decide)
  have e1 : ∀ w, (binOp .eql 24 (ZV 0) (.agg #[.bool false, .int .u64 0, .int .u64 0])).run Try.prog w = .ok (.bool true) w := eql_mm false false 0 0
  clear h1 hg hm hm' hg'
  generalize errV 1 = e1v at *
  go_enter Try.func5, Try.ntmps5
  go_wp2_with fail; refine (C0.out _).mono ?_; rintro ew1 w1 ⟨rfl, hbw1⟩; obtain ⟨hcw1, hfw1⟩ := bcell hbw1; (try simp only [World.size_drew, World.cell?_drew, World.frozen?_drew] at hcw1 hfw1); have hzw1 := hbw1.size; (try simp at hzw1); have : w.heap.size < w1.heap.size := (by omega); have : w.heap.size + 1 < w1.heap.size := (by omega); (try dsimp only)
  go_wp2_with fail; refine (A1.out _).mono ?_; rintro ew2 w2 ⟨rfl, hbw2⟩; obtain ⟨hcw2, hfw2⟩ := bcell hbw2; (try simp only [World.size_drew, World.cell?_drew, World.frozen?_drew] at hcw2 hfw2); have hzw2 := hbw2.size; (try simp at hzw2); have : w.heap.size < w2.heap.size := (by omega); have : w.heap.size + 1 < w2.heap.size := (by omega); (try dsimp only)
  go_wp2_with fail; refine (RG1.out _).mono ?_; rintro ew5 w5 ⟨rfl, hbw5⟩; obtain ⟨hcw5, hfw5⟩ := bcell hbw5; (try simp only [World.size_drew, World.cell?_drew, World.frozen?_drew] at hcw5 hfw5); have hzw5 := hbw5.size; (try simp at hzw5); have : w.heap.size < w5.heap.size := (by omega); have : w.heap.size + 1 < w5.heap.size := (by omega); have : w2.heap.size < w5.heap.size := (by omega); (try dsimp only)
  go_wp2_with fail; refine (RG2.out _).mono ?_; rintro ew6 w6 ⟨rfl, hbw6⟩; obtain ⟨hcw6, hfw6⟩ := bcell hbw6; (try simp only [World.size_drew, World.cell?_drew, World.frozen?_drew] at hcw6 hfw6); have hzw6 := hbw6.size; (try simp at hzw6); have : w.heap.size < w6.heap.size := (by omega); have : w.heap.size + 1 < w6.heap.size := (by omega); have : w2.heap.size < w6.heap.size := (by omega); (try dsimp only)
  go_wp2_with fail
  refine (K1.out _).mono ?_; rintro ek1 wk1 ⟨rfl, rfl⟩
  go_wp2
  go_ret
  refine ⟨rfl, ?_⟩
  repeat (first | (with_reducible exact Below.refl _ _) | (with_reducible refine Below.drew ?_) | (refine Below.setCell ?_ (by first | exact Nat.le_refl _ | (simp; done) | (simp; omega) | omega) _) | (refine Below.alloc ?_ (by first | exact Nat.le_refl _ | (simp; done) | (simp; omega) | omega) _) | (refine Below.trans ?_ (Below.mono (by assumption) (by first | exact Nat.le_refl _ | (simp; done) | (simp; omega) | omega))))
end Go.Proofs.Ytanfgolelhmdhaa
