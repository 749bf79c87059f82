/- The walk of CharsetClasses. -/
import Derived.Test.YtgigapmoooaaoaaSetO
import Derived.Test.YtgigapmoooaaoaaSetEsc
import Derived.Test.YtgigapmoooaaoaaSetIn
namespace Go.Proofs.Ytgigapmoooaaoaa
set_option linter.unusedSimpArgs false
set_option linter.unusedVariables false
set_option linter.unnecessarySimpa false
open Go.RowKit

set_option maxRecDepth 100000 in
set_option maxHeartbeats 8000000 in
theorem classes_early (s : ByteArray) (x : Value) (w : World) (hM : HM w) (hs : 20 < s.size) :
    Calls Try.prog 3 #[.string s, x] w fun e w' => e = .returned (.bool true) ∧ Below w.heap.size w w' := by
  have HA : Hid (Calls Try.prog 8 #[] w fun e w' => e = .returned (.bool true) ∧ Below w.heap.size w w') := awake3 w hM
  have t1 : decide ((20 : Int) < (s.size : Int)) = true := decide_eq_true (by omega)
  have t2 : decide (20 < s.size) = true := decide_eq_true hs
  clear hM
  go_enter Try.func3, Try.ntmps3
  go_wp2_with fail
  refine (HA.out).mono ?_; rintro eu2 u2 ⟨rfl, hbu2⟩; obtain ⟨hcu2, hfu2⟩ := bcell hbu2; (try simp only [World.size_drew, World.cell?_drew, World.frozen?_drew] at hcu2 hfu2); have hzu2 := hbu2.size; (try simp at hzu2); (try dsimp only)
  go_wp2
  go_ret
  exact ⟨rfl, hbu2⟩
set_option maxRecDepth 100000 in
set_option maxHeartbeats 16000000 in
theorem classes_core (P : Nat → Bool) (o : Bool) (s : ByteArray) (c d : Nat) (w : World) (hM : HM w) (hs : s.size ≤ 20)
    (HA : Hid (∀ W, HM W → Calls Try.prog 8 #[] W fun e w' => e = .returned (.bool true) ∧ Below W.heap.size W w'))
    (C1 : Hid (∀ W, Calls Try.prog 9 #[.string s] W fun e w' => e = .returned (.tuple #[setV P, .bool o]) ∧ Below W.heap.size W w'))
    (I0 : Hid (∀ k : Nat, k < 256 → ∀ W, Calls Try.prog 10 #[.string s, .int .i64 (k : Int)] W fun e w' => e = .returned (.tuple #[.bool (P k), .bool o]) ∧ W = w'))
    (E1 : Hid (∀ W, Calls Try.prog 11 #[.int .u8 (c : Int)] W fun e w' => e = .returned (.int .u8 (d : Int)) ∧ W = w'))
    (E2 : Hid (∀ W, Calls Try.prog 12 #[.int .u8 (c : Int)] W fun e w' => e = .returned (.int .u8 (d : Int)) ∧ W = w'))
    (H1 : Hid (∀ k : Nat, k < 256 → ∀ W, Calls Try.prog 13 #[setV P, .int .u8 (k : Int)] W fun e w' => e = .returned (.bool (P k)) ∧ Below W.heap.size W w')) :
    Calls Try.prog 3 #[.string s, .int .u8 (c : Int)] w fun e w' => e = .returned (.bool true) ∧ Below w.heap.size w w' := by
  have t1 : decide ((20 : Int) < (s.size : Int)) = false := decide_eq_false (by omega)
  have t2 : decide (20 < s.size) = false := decide_eq_false (by omega)
  have I00 : Hid (∀ W, Calls Try.prog 10 #[.string s, .int .i64 0] W fun e w' => e = .returned (.tuple #[.bool (P 0), .bool o]) ∧ W = w') := I0.out 0 (by decide)
  generalize P 0 = p0 at I00
  go_enter Try.func3, Try.ntmps3
  go_wp2_with fail
  refine (HA.out _ hM).mono ?_; rintro e u2 ⟨rfl, hb2⟩; (try dsimp only)
  have hBu2 : Below w.heap.size w u2 := hb2
  clear hb2 hM HA
  go_wp2_with fail
  refine (C1.out _).mono ?_; rintro e u3 ⟨rfl, hb3⟩; (try dsimp only)
  have hBu3 : Below w.heap.size w u3 := hBu2.trans (hb3.mono hBu2.size)
  clear hb3
  go_upto_region 6 with fail
  have hsu3 : w.heap.size ≤ u3.heap.size := hBu3.size
  have ra : Row (u3.alloc (.cells (setA P) 25)) u3.heap.size 25 (setA P) := Row.new u3 _ _
  have hBu4 : Below w.heap.size w (u3.alloc (.cells (setA P) 25)) := by repeat (first | (with_reducible exact Below.refl _ _) | (with_reducible refine Below.drew ?_) | (refine Below.setCell ?_ (by first | exact Nat.le_refl _ | (simp; done) | (simp; omega) | omega) _) | (refine Below.alloc ?_ (by first | exact Nat.le_refl _ | (simp; done) | (simp; omega) | omega) _) | (refine Below.trans ?_ (Below.mono (by assumption) (by first | exact Nat.le_refl _ | (simp; done) | (simp; omega) | omega))))
  generalize (u3.alloc (.cells (setA P) 25)) = u4 at *
  go_wp2_with fail
  refine (I00.out _).mono ?_; rintro e w' ⟨rfl, rfl⟩; (try dsimp only)
  clear I00
  go_wp2_with (first | (go_at_call 11; refine (E1.out _).mono ?_; rintro e w' ⟨rfl, rfl⟩) | (go_at_call 12; refine (E2.out _).mono ?_; rintro e w' ⟨rfl, rfl⟩))
  go_loopw [9] (fun i wr => ∃ k : Nat, k ≤ 256 ∧ i = .int .i64 (k : Int) ∧ Row wr u3.heap.size 25 (setA P) ∧ Below w.heap.size w wr) (fun i _ => 256 - (intOf i).toNat)
  case atStart => exact ⟨0, by omega, rfl, ra, hBu4⟩
  case round =>
    obtain ⟨k, hk, rfl, r, hB⟩ := hrel
    by_cases hlt : k < 256
    · have hi := I0.out k hlt
      have hh := H1.out k hlt
      have HI := Lib.hid hi
      have HH := Lib.hid hh
      have hlt' : (k : Int) < 256 := by omega
      have w8 : IntKind.u8.wrap (k : Int) = (k : Int) := by rw [IntKind.wrap_u8]; omega
      have RR := Lib.hid (And.intro r hB)
      obtain ⟨j0, j1, j2, j3, f0, f1, f2, f3, z0⟩ := r.four
      clear hi hh f0 f1 f2 f3 r
      generalize P k = b at *
      go_wp2_with fail
      refine (HI.out _).mono ?_; rintro e w' ⟨rfl, rfl⟩; (try dsimp only)
      go_wp2_with fail
      refine (HH.out _).mono ?_; rintro e u6 ⟨rfl, hb6⟩; (try dsimp only)
      go_wp2
      go_roundw
      case rel => exact ⟨k + 1, by omega, by go_num, RR.out.1.on hb6, RR.out.2.trans (hb6.mono RR.out.2.size)⟩
      case measure => simp [intOf]; omega
    · obtain rfl : k = 256 := by omega
      have hj1 : ¬ ((256 : Nat) : Int) < 256 := by omega
      go_wp2
      go_ret
      exact ⟨rfl, hB⟩
theorem classes_w (s : ByteArray) (hsz : s.size ≤ maxLen) (c : UInt8) (w : World) (hM : HM w) :
    Calls Try.prog 3 #[.string s, bv c] w fun e w' => e = .returned (.bool true) ∧ Below w.heap.size w w' := by
  by_cases hs : 20 < s.size
  · exact classes_early s _ w hM hs
  · obtain ⟨l, rfl⟩ : ∃ l, s = S8 l := ⟨s.data.toList, by cases s; rfl⟩
    refine classes_core ((clsL l).getD nonP) (clsL l).isSome (S8 l) c.toNat (escU c).toNat w hM (by omega) (fun W h => awake3 W h) (fun W => cls_u l W) (fun k hk W => in_u l k hk W) (fun W => escape_u c W) (fun W => resc_u c W) (fun k hk W => ?_)
    have := has_u ((clsL l).getD nonP) (UInt8.ofNat k) W
    have e : (UInt8.ofNat k).toNat = k := by rw [UInt8.toNat_ofNat']; omega
    unfold bv at this
    rwa [e] at this
end Go.Proofs.Ytgigapmoooaaoaa
