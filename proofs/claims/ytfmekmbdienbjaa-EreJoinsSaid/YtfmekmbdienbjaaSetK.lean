/- The contracts of member of charset. -/
import Derived.Test.YtfmekmbdienbjaaSetJ
namespace Go.Proofs.Ytfmekmbdienbjaa
set_option linter.unusedSimpArgs false
set_option linter.unusedVariables false
set_option linter.unnecessarySimpa false
open Go.RowKit

set_option maxRecDepth 100000 in
set_option maxHeartbeats 8000000 in
theorem mem1 {v : Value} {w : World} {q : Nat → Bool} {k m n : Nat} (hm : m ≤ 2000000000) (B1 : Hid (∀ W, Below w.heap.size w W → Calls Try.prog 38 #[v, .int .i64 (k : Int), .string ⟨#[91, 58]⟩] W fun e w' => e = .returned (.bool true) ∧ Below W.heap.size W w')) (CO : Hid (∀ W, Below w.heap.size w W → Calls Try.prog 39 #[v, .int .i64 (k : Int)] W fun e w' => e = .returned (.tuple #[setV q, .int .i64 (n : Int), .nilIface]) ∧ Below W.heap.size W w')) :
    Calls Try.prog 36 #[v, .int .i64 (k : Int)] w fun e w' => e = .returned (.tuple #[setV q, .int .i64 (n : Int), .nilIface]) ∧ Below w.heap.size w w' := by
  go_enter Try.func36, Try.ntmps36
  go_upto_region 1 with fail
  have r1 : Row (w.alloc (.cells zA 26)) w.heap.size 26 zA := Row.new w _ _
  have hB1 : Below w.heap.size w (w.alloc (.cells zA 26)) := by repeat (first | (with_reducible exact Below.refl _ _) | (with_reducible refine Below.drew ?_) | (refine Below.setCell ?_ (by first | exact Nat.le_refl _ | (simp; done) | (simp; omega) | omega) _) | (refine Below.alloc ?_ (by first | exact Nat.le_refl _ | (simp; done) | (simp; omega) | omega) _) | (refine Below.trans ?_ (Below.mono (by assumption) (by first | exact Nat.le_refl _ | (simp; done) | (simp; omega) | omega))))
  generalize (w.alloc (.cells zA 26)) = w1 at *
  go_wp2_with fail
  refine (B1.out _ hB1).mono ?_
  rintro e w2 ⟨rfl, hb2⟩
  have r2 := r1.on hb2
  have hB2 : Below w.heap.size w w2 := hB1.trans (hb2.mono hB1.size)
  clear hb2 r1
  (try dsimp only)
  go_wp2_with fail
  refine (CO.out _ hB2).mono ?_
  rintro e w3 ⟨rfl, hb3⟩
  have r3 := r2.on hb3
  have hB3 : Below w.heap.size w w3 := hB2.trans (hb3.mono hB2.size)
  clear hb3 r2
  (try dsimp only)
  obtain ⟨k0, k1, k2, k3, f0, f1, f2, f3, z0⟩ := r3.four
  go_wp2
  refine bodyPost_ret (v := .tuple #[setV q, .int .i64 (n : Int), .nilIface]) (by simp [results, Try.results36, go_sem, *]) rfl ⟨rfl, ?_⟩
  repeat (first | (with_reducible exact Below.refl _ _) | (with_reducible refine Below.drew ?_) | (refine Below.setCell ?_ (by first | exact Nat.le_refl _ | (simp; done) | (simp; omega) | omega) _) | (refine Below.alloc ?_ (by first | exact Nat.le_refl _ | (simp; done) | (simp; omega) | omega) _) | (refine Below.trans ?_ (Below.mono (by assumption) (by first | exact Nat.le_refl _ | (simp; done) | (simp; omega) | omega))))

set_option maxRecDepth 100000 in
set_option maxHeartbeats 8000000 in
theorem mem2 {v : Value} {w : World} {a c k m : Nat} (hm : m ≤ 2000000000) (B1 : Hid (∀ W, Below w.heap.size w W → Calls Try.prog 38 #[v, .int .i64 (k : Int), .string ⟨#[91, 58]⟩] W fun e w' => e = .returned (.bool true) ∧ Below W.heap.size W w')) (CB : Hid (∀ W, Below w.heap.size w W → Calls Try.prog 39 #[v, .int .i64 (k : Int)] W fun e w' => BadR W e w' a c)) :
    Calls Try.prog 36 #[v, .int .i64 (k : Int)] w fun e w' => BadR w e w' a c := by
  go_enter Try.func36, Try.ntmps36
  go_upto_region 1 with fail
  have r1 : Row (w.alloc (.cells zA 26)) w.heap.size 26 zA := Row.new w _ _
  have hB1 : Below w.heap.size w (w.alloc (.cells zA 26)) := by repeat (first | (with_reducible exact Below.refl _ _) | (with_reducible refine Below.drew ?_) | (refine Below.setCell ?_ (by first | exact Nat.le_refl _ | (simp; done) | (simp; omega) | omega) _) | (refine Below.alloc ?_ (by first | exact Nat.le_refl _ | (simp; done) | (simp; omega) | omega) _) | (refine Below.trans ?_ (Below.mono (by assumption) (by first | exact Nat.le_refl _ | (simp; done) | (simp; omega) | omega))))
  generalize (w.alloc (.cells zA 26)) = w1 at *
  go_wp2_with fail
  refine (B1.out _ hB1).mono ?_
  rintro e w2 ⟨rfl, hb2⟩
  have r2 := r1.on hb2
  have hB2 : Below w.heap.size w w2 := hB1.trans (hb2.mono hB1.size)
  clear hb2 r1
  (try dsimp only)
  go_wp2_with fail
  refine (CB.out _ hB2).mono ?_
  rintro e w3 ⟨b, rfl, hbl, hrow, hb3⟩
  have r3 := r2.on hb3
  have hB3 : Below w.heap.size w w3 := hB2.trans (hb3.mono hB2.size)
  have hbB : w.heap.size < b := Nat.lt_of_lt_of_le r2.lt hbl
  have hrow' := Lib.hid hrow
  clear hrow
  clear hb3 r2
  (try dsimp only)
  obtain ⟨k0, k1, k2, k3, f0, f1, f2, f3, z0⟩ := r3.four
  go_wp2
  refine bodyPost_ret (v := .tuple #[zeroV, .int .i64 0, .iface 47 (.pointer (some ⟨b, 0, none⟩))]) (by simp [results, Try.results36, go_sem, *]) rfl ?_
  refine ⟨b, rfl, Nat.le_of_lt hbB, (((hrow'.out.far (by simp; omega) _).far (by simp; omega) _).far (by simp; omega) _).far (by simp; omega) _, ?_⟩
  repeat (first | (with_reducible exact Below.refl _ _) | (with_reducible refine Below.drew ?_) | (refine Below.setCell ?_ (by first | exact Nat.le_refl _ | (simp; done) | (simp; omega) | omega) _) | (refine Below.alloc ?_ (by first | exact Nat.le_refl _ | (simp; done) | (simp; omega) | omega) _) | (refine Below.trans ?_ (Below.mono (by assumption) (by first | exact Nat.le_refl _ | (simp; done) | (simp; omega) | omega))))

set_option maxRecDepth 100000 in
set_option maxHeartbeats 8000000 in
theorem mem3 {v : Value} {w : World} {a c k m : Nat} (hm : m ≤ 2000000000) (B0 : Hid (∀ W, Below w.heap.size w W → Calls Try.prog 38 #[v, .int .i64 (k : Int), .string ⟨#[91, 58]⟩] W fun e w' => e = .returned (.bool false) ∧ Below W.heap.size W w')) (LB : Hid (∀ W, Below w.heap.size w W → Calls Try.prog 40 #[v, .int .i64 (k : Int)] W fun e w' => (∃ b, e = .returned (.tuple #[.int .u8 0, .int .i64 0, .iface 47 (.pointer (some ⟨b, 0, none⟩))]) ∧ W.heap.size ≤ b ∧ Row w' b 49 #[.int .i64 (a : Int), .iface 41 (.int .i64 ((c : Nat) : Int))]) ∧ Below W.heap.size W w')) :
    Calls Try.prog 36 #[v, .int .i64 (k : Int)] w fun e w' => BadR w e w' a c := by
  go_enter Try.func36, Try.ntmps36
  go_upto_region 1 with fail
  have r1 : Row (w.alloc (.cells zA 26)) w.heap.size 26 zA := Row.new w _ _
  have hB1 : Below w.heap.size w (w.alloc (.cells zA 26)) := by repeat (first | (with_reducible exact Below.refl _ _) | (with_reducible refine Below.drew ?_) | (refine Below.setCell ?_ (by first | exact Nat.le_refl _ | (simp; done) | (simp; omega) | omega) _) | (refine Below.alloc ?_ (by first | exact Nat.le_refl _ | (simp; done) | (simp; omega) | omega) _) | (refine Below.trans ?_ (Below.mono (by assumption) (by first | exact Nat.le_refl _ | (simp; done) | (simp; omega) | omega))))
  generalize (w.alloc (.cells zA 26)) = w1 at *
  go_wp2_with fail
  refine (B0.out _ hB1).mono ?_
  rintro e w2 ⟨rfl, hb2⟩
  have r2 := r1.on hb2
  have hB2 : Below w.heap.size w w2 := hB1.trans (hb2.mono hB1.size)
  clear hb2 r1
  (try dsimp only)
  go_wp2_with fail
  refine (LB.out _ hB2).mono ?_
  rintro e w3 ⟨⟨b, rfl, hbl, hrow⟩, hb3⟩
  have r3 := r2.on hb3
  have hB3 : Below w.heap.size w w3 := hB2.trans (hb3.mono hB2.size)
  have hbB : w.heap.size < b := Nat.lt_of_lt_of_le r2.lt hbl
  have hrow' := Lib.hid hrow
  clear hrow
  clear hb3 r2
  (try dsimp only)
  obtain ⟨k0, k1, k2, k3, f0, f1, f2, f3, z0⟩ := r3.four
  go_wp2
  refine bodyPost_ret (v := .tuple #[zeroV, .int .i64 0, .iface 47 (.pointer (some ⟨b, 0, none⟩))]) (by simp [results, Try.results36, go_sem, *]) rfl ?_
  refine ⟨b, rfl, Nat.le_of_lt hbB, (((hrow'.out.far (by simp; omega) _).far (by simp; omega) _).far (by simp; omega) _).far (by simp; omega) _, ?_⟩
  repeat (first | (with_reducible exact Below.refl _ _) | (with_reducible refine Below.drew ?_) | (refine Below.setCell ?_ (by first | exact Nat.le_refl _ | (simp; done) | (simp; omega) | omega) _) | (refine Below.alloc ?_ (by first | exact Nat.le_refl _ | (simp; done) | (simp; omega) | omega) _) | (refine Below.trans ?_ (Below.mono (by assumption) (by first | exact Nat.le_refl _ | (simp; done) | (simp; omega) | omega))))

set_option maxRecDepth 100000 in
set_option maxHeartbeats 8000000 in
theorem mem4 {v : Value} {w : World} {q : Nat → Bool} {k m n x : Nat} (hm : m ≤ 2000000000) (B0 : Hid (∀ W, Below w.heap.size w W → Calls Try.prog 38 #[v, .int .i64 (k : Int), .string ⟨#[91, 58]⟩] W fun e w' => e = .returned (.bool false) ∧ Below W.heap.size W w')) (LO : Hid (∀ W, Below w.heap.size w W → Calls Try.prog 40 #[v, .int .i64 (k : Int)] W fun e w' => e = .returned (.tuple #[.int .u8 (x : Int), .int .i64 (m : Int), .nilIface]) ∧ W = w')) (G0 : Hid (∀ W, Below w.heap.size w W → Calls Try.prog 41 #[v, .int .i64 (m : Int)] W fun e w' => e = .returned (.bool false) ∧ W = w')) (R1 : Hid (∀ W, Below w.heap.size w W → Calls Try.prog 28 #[.int .u8 (x : Int), .int .u8 (x : Int)] W fun e w' => e = .returned (setV q) ∧ Below W.heap.size W w')) (hmn : m = n) :
    Calls Try.prog 36 #[v, .int .i64 (k : Int)] w fun e w' => e = .returned (.tuple #[setV q, .int .i64 (n : Int), .nilIface]) ∧ Below w.heap.size w w' := by
  subst hmn
  go_enter Try.func36, Try.ntmps36
  go_upto_region 1 with fail
  have r1 : Row (w.alloc (.cells zA 26)) w.heap.size 26 zA := Row.new w _ _
  have hB1 : Below w.heap.size w (w.alloc (.cells zA 26)) := by repeat (first | (with_reducible exact Below.refl _ _) | (with_reducible refine Below.drew ?_) | (refine Below.setCell ?_ (by first | exact Nat.le_refl _ | (simp; done) | (simp; omega) | omega) _) | (refine Below.alloc ?_ (by first | exact Nat.le_refl _ | (simp; done) | (simp; omega) | omega) _) | (refine Below.trans ?_ (Below.mono (by assumption) (by first | exact Nat.le_refl _ | (simp; done) | (simp; omega) | omega))))
  generalize (w.alloc (.cells zA 26)) = w1 at *
  go_wp2_with fail
  refine (B0.out _ hB1).mono ?_
  rintro e w2 ⟨rfl, hb2⟩
  have r2 := r1.on hb2
  have hB2 : Below w.heap.size w w2 := hB1.trans (hb2.mono hB1.size)
  clear hb2 r1
  (try dsimp only)
  go_wp2_with fail
  refine (LO.out _ hB2).mono ?_
  rintro e w' ⟨rfl, rfl⟩
  (try dsimp only)
  go_wp2_with fail
  refine (G0.out _ hB2).mono ?_
  rintro e w' ⟨rfl, rfl⟩
  (try dsimp only)
  go_wp2_with fail
  refine (R1.out _ hB2).mono ?_
  rintro e w3 ⟨rfl, hb3⟩
  have r3 := r2.on hb3
  have hB3 : Below w.heap.size w w3 := hB2.trans (hb3.mono hB2.size)
  clear hb3 r2
  (try dsimp only)
  obtain ⟨k0, k1, k2, k3, f0, f1, f2, f3, z0⟩ := r3.four
  go_wp2
  refine bodyPost_ret (v := .tuple #[setV q, .int .i64 (m : Int), .nilIface]) (by simp [results, Try.results36, go_sem, *]) rfl ⟨rfl, ?_⟩
  repeat (first | (with_reducible exact Below.refl _ _) | (with_reducible refine Below.drew ?_) | (refine Below.setCell ?_ (by first | exact Nat.le_refl _ | (simp; done) | (simp; omega) | omega) _) | (refine Below.alloc ?_ (by first | exact Nat.le_refl _ | (simp; done) | (simp; omega) | omega) _) | (refine Below.trans ?_ (Below.mono (by assumption) (by first | exact Nat.le_refl _ | (simp; done) | (simp; omega) | omega))))

set_option maxRecDepth 100000 in
set_option maxHeartbeats 8000000 in
theorem mem5 {v : Value} {w : World} {k m x : Nat} (hm : m ≤ 2000000000) (B0 : Hid (∀ W, Below w.heap.size w W → Calls Try.prog 38 #[v, .int .i64 (k : Int), .string ⟨#[91, 58]⟩] W fun e w' => e = .returned (.bool false) ∧ Below W.heap.size W w')) (LO : Hid (∀ W, Below w.heap.size w W → Calls Try.prog 40 #[v, .int .i64 (k : Int)] W fun e w' => e = .returned (.tuple #[.int .u8 (x : Int), .int .i64 (m : Int), .nilIface]) ∧ W = w')) (G1 : Hid (∀ W, Below w.heap.size w W → Calls Try.prog 41 #[v, .int .i64 (m : Int)] W fun e w' => e = .returned (.bool true) ∧ W = w')) (D1 : Hid (∀ W, Below w.heap.size w W → Calls Try.prog 38 #[v, .int .i64 ((m : Int) + 1), .string ⟨#[91, 58]⟩] W fun e w' => e = .returned (.bool true) ∧ Below W.heap.size W w')) :
    Calls Try.prog 36 #[v, .int .i64 (k : Int)] w fun e w' => BadR w e w' k 4 := by
  have w1' : IntKind.i64.wrap ((m : Int) + 1) = (m : Int) + 1 := by rw [IntKind.wrap_i64]; omega
  have HF : Hid (∀ W, Calls Try.prog 34 #[.int .i64 (k : Int), .int .i64 4] W fun e w' => e = .returned (.iface 47 (.pointer (some ⟨W.heap.size, 0, none⟩))) ∧ w' = W.alloc (.cells #[.int .i64 (k : Int), .iface 41 (.int .i64 4)] 49)) := fun W => fault_u k 4 W
  go_enter Try.func36, Try.ntmps36
  go_upto_region 1 with fail
  have r1 : Row (w.alloc (.cells zA 26)) w.heap.size 26 zA := Row.new w _ _
  have hB1 : Below w.heap.size w (w.alloc (.cells zA 26)) := by repeat (first | (with_reducible exact Below.refl _ _) | (with_reducible refine Below.drew ?_) | (refine Below.setCell ?_ (by first | exact Nat.le_refl _ | (simp; done) | (simp; omega) | omega) _) | (refine Below.alloc ?_ (by first | exact Nat.le_refl _ | (simp; done) | (simp; omega) | omega) _) | (refine Below.trans ?_ (Below.mono (by assumption) (by first | exact Nat.le_refl _ | (simp; done) | (simp; omega) | omega))))
  generalize (w.alloc (.cells zA 26)) = w1 at *
  go_wp2_with fail
  refine (B0.out _ hB1).mono ?_
  rintro e w2 ⟨rfl, hb2⟩
  have r2 := r1.on hb2
  have hB2 : Below w.heap.size w w2 := hB1.trans (hb2.mono hB1.size)
  clear hb2 r1
  (try dsimp only)
  go_wp2_with fail
  refine (LO.out _ hB2).mono ?_
  rintro e w' ⟨rfl, rfl⟩
  (try dsimp only)
  go_wp2_with fail
  refine (G1.out _ hB2).mono ?_
  rintro e w' ⟨rfl, rfl⟩
  (try dsimp only)
  go_wp2_with fail
  refine (D1.out _ hB2).mono ?_
  rintro e w3 ⟨rfl, hb3⟩
  have r3 := r2.on hb3
  have hB3 : Below w.heap.size w w3 := hB2.trans (hb3.mono hB2.size)
  clear hb3 r2
  (try dsimp only)
  obtain ⟨k0, k1, k2, k3, f0, f1, f2, f3, z0⟩ := r3.four
  go_wp2_with (go_at_call 34; refine (HF.out _).mono ?_; rintro e w' ⟨rfl, rfl⟩)
  refine bodyPost_ret (v := .tuple #[zeroV, .int .i64 0, .iface 47 (.pointer (some ⟨w3.heap.size, 0, none⟩))]) (by simp [results, Try.results36, go_sem, *]) rfl ?_
  refine ⟨_, rfl, hB3.size, Row.new' (by simp), ?_⟩
  repeat (first | (with_reducible exact Below.refl _ _) | (with_reducible refine Below.drew ?_) | (refine Below.setCell ?_ (by first | exact Nat.le_refl _ | (simp; done) | (simp; omega) | omega) _) | (refine Below.alloc ?_ (by first | exact Nat.le_refl _ | (simp; done) | (simp; omega) | omega) _) | (refine Below.trans ?_ (Below.mono (by assumption) (by first | exact Nat.le_refl _ | (simp; done) | (simp; omega) | omega))))

set_option maxRecDepth 100000 in
set_option maxHeartbeats 8000000 in
theorem mem6 {v : Value} {w : World} {a c k m x : Nat} (hm : m ≤ 2000000000) (B0 : Hid (∀ W, Below w.heap.size w W → Calls Try.prog 38 #[v, .int .i64 (k : Int), .string ⟨#[91, 58]⟩] W fun e w' => e = .returned (.bool false) ∧ Below W.heap.size W w')) (LO : Hid (∀ W, Below w.heap.size w W → Calls Try.prog 40 #[v, .int .i64 (k : Int)] W fun e w' => e = .returned (.tuple #[.int .u8 (x : Int), .int .i64 (m : Int), .nilIface]) ∧ W = w')) (G1 : Hid (∀ W, Below w.heap.size w W → Calls Try.prog 41 #[v, .int .i64 (m : Int)] W fun e w' => e = .returned (.bool true) ∧ W = w')) (D0 : Hid (∀ W, Below w.heap.size w W → Calls Try.prog 38 #[v, .int .i64 ((m : Int) + 1), .string ⟨#[91, 58]⟩] W fun e w' => e = .returned (.bool false) ∧ Below W.heap.size W w')) (KB : Hid (∀ W, Below w.heap.size w W → Calls Try.prog 40 #[v, .int .i64 ((m : Int) + 1)] W fun e w' => (∃ b, e = .returned (.tuple #[.int .u8 0, .int .i64 0, .iface 47 (.pointer (some ⟨b, 0, none⟩))]) ∧ W.heap.size ≤ b ∧ Row w' b 49 #[.int .i64 (a : Int), .iface 41 (.int .i64 ((c : Nat) : Int))]) ∧ Below W.heap.size W w')) :
    Calls Try.prog 36 #[v, .int .i64 (k : Int)] w fun e w' => BadR w e w' a c := by
  have w1' : IntKind.i64.wrap ((m : Int) + 1) = (m : Int) + 1 := by rw [IntKind.wrap_i64]; omega
  go_enter Try.func36, Try.ntmps36
  go_upto_region 1 with fail
  have r1 : Row (w.alloc (.cells zA 26)) w.heap.size 26 zA := Row.new w _ _
  have hB1 : Below w.heap.size w (w.alloc (.cells zA 26)) := by repeat (first | (with_reducible exact Below.refl _ _) | (with_reducible refine Below.drew ?_) | (refine Below.setCell ?_ (by first | exact Nat.le_refl _ | (simp; done) | (simp; omega) | omega) _) | (refine Below.alloc ?_ (by first | exact Nat.le_refl _ | (simp; done) | (simp; omega) | omega) _) | (refine Below.trans ?_ (Below.mono (by assumption) (by first | exact Nat.le_refl _ | (simp; done) | (simp; omega) | omega))))
  generalize (w.alloc (.cells zA 26)) = w1 at *
  go_wp2_with fail
  refine (B0.out _ hB1).mono ?_
  rintro e w2 ⟨rfl, hb2⟩
  have r2 := r1.on hb2
  have hB2 : Below w.heap.size w w2 := hB1.trans (hb2.mono hB1.size)
  clear hb2 r1
  (try dsimp only)
  go_wp2_with fail
  refine (LO.out _ hB2).mono ?_
  rintro e w' ⟨rfl, rfl⟩
  (try dsimp only)
  go_wp2_with fail
  refine (G1.out _ hB2).mono ?_
  rintro e w' ⟨rfl, rfl⟩
  (try dsimp only)
  go_wp2_with fail
  refine (D0.out _ hB2).mono ?_
  rintro e w3 ⟨rfl, hb3⟩
  have r3 := r2.on hb3
  have hB3 : Below w.heap.size w w3 := hB2.trans (hb3.mono hB2.size)
  clear hb3 r2
  (try dsimp only)
  go_wp2_with fail
  refine (KB.out _ hB3).mono ?_
  rintro e w4 ⟨⟨b, rfl, hbl, hrow⟩, hb4⟩
  have r4 := r3.on hb4
  have hB4 : Below w.heap.size w w4 := hB3.trans (hb4.mono hB3.size)
  have hbB : w.heap.size < b := Nat.lt_of_lt_of_le r3.lt hbl
  have hrow' := Lib.hid hrow
  clear hrow
  clear hb4 r3
  (try dsimp only)
  obtain ⟨k0, k1, k2, k3, f0, f1, f2, f3, z0⟩ := r4.four
  go_wp2
  refine bodyPost_ret (v := .tuple #[zeroV, .int .i64 0, .iface 47 (.pointer (some ⟨b, 0, none⟩))]) (by simp [results, Try.results36, go_sem, *]) rfl ?_
  refine ⟨b, rfl, Nat.le_of_lt hbB, (((hrow'.out.far (by simp; omega) _).far (by simp; omega) _).far (by simp; omega) _).far (by simp; omega) _, ?_⟩
  repeat (first | (with_reducible exact Below.refl _ _) | (with_reducible refine Below.drew ?_) | (refine Below.setCell ?_ (by first | exact Nat.le_refl _ | (simp; done) | (simp; omega) | omega) _) | (refine Below.alloc ?_ (by first | exact Nat.le_refl _ | (simp; done) | (simp; omega) | omega) _) | (refine Below.trans ?_ (Below.mono (by assumption) (by first | exact Nat.le_refl _ | (simp; done) | (simp; omega) | omega))))

set_option maxRecDepth 100000 in
set_option maxHeartbeats 8000000 in
theorem mem7 {v : Value} {w : World} {k m n x y : Nat} (hm : m ≤ 2000000000) (B0 : Hid (∀ W, Below w.heap.size w W → Calls Try.prog 38 #[v, .int .i64 (k : Int), .string ⟨#[91, 58]⟩] W fun e w' => e = .returned (.bool false) ∧ Below W.heap.size W w')) (LO : Hid (∀ W, Below w.heap.size w W → Calls Try.prog 40 #[v, .int .i64 (k : Int)] W fun e w' => e = .returned (.tuple #[.int .u8 (x : Int), .int .i64 (m : Int), .nilIface]) ∧ W = w')) (G1 : Hid (∀ W, Below w.heap.size w W → Calls Try.prog 41 #[v, .int .i64 (m : Int)] W fun e w' => e = .returned (.bool true) ∧ W = w')) (D0 : Hid (∀ W, Below w.heap.size w W → Calls Try.prog 38 #[v, .int .i64 ((m : Int) + 1), .string ⟨#[91, 58]⟩] W fun e w' => e = .returned (.bool false) ∧ Below W.heap.size W w')) (KO : Hid (∀ W, Below w.heap.size w W → Calls Try.prog 40 #[v, .int .i64 ((m : Int) + 1)] W fun e w' => e = .returned (.tuple #[.int .u8 (y : Int), .int .i64 (n : Int), .nilIface]) ∧ W = w')) (ht : decide (y < x) = true) :
    Calls Try.prog 36 #[v, .int .i64 (k : Int)] w fun e w' => BadR w e w' k 4 := by
  have w1' : IntKind.i64.wrap ((m : Int) + 1) = (m : Int) + 1 := by rw [IntKind.wrap_i64]; omega
  have HF : Hid (∀ W, Calls Try.prog 34 #[.int .i64 (k : Int), .int .i64 4] W fun e w' => e = .returned (.iface 47 (.pointer (some ⟨W.heap.size, 0, none⟩))) ∧ w' = W.alloc (.cells #[.int .i64 (k : Int), .iface 41 (.int .i64 4)] 49)) := fun W => fault_u k 4 W
  go_enter Try.func36, Try.ntmps36
  go_upto_region 1 with fail
  have r1 : Row (w.alloc (.cells zA 26)) w.heap.size 26 zA := Row.new w _ _
  have hB1 : Below w.heap.size w (w.alloc (.cells zA 26)) := by repeat (first | (with_reducible exact Below.refl _ _) | (with_reducible refine Below.drew ?_) | (refine Below.setCell ?_ (by first | exact Nat.le_refl _ | (simp; done) | (simp; omega) | omega) _) | (refine Below.alloc ?_ (by first | exact Nat.le_refl _ | (simp; done) | (simp; omega) | omega) _) | (refine Below.trans ?_ (Below.mono (by assumption) (by first | exact Nat.le_refl _ | (simp; done) | (simp; omega) | omega))))
  generalize (w.alloc (.cells zA 26)) = w1 at *
  go_wp2_with fail
  refine (B0.out _ hB1).mono ?_
  rintro e w2 ⟨rfl, hb2⟩
  have r2 := r1.on hb2
  have hB2 : Below w.heap.size w w2 := hB1.trans (hb2.mono hB1.size)
  clear hb2 r1
  (try dsimp only)
  go_wp2_with fail
  refine (LO.out _ hB2).mono ?_
  rintro e w' ⟨rfl, rfl⟩
  (try dsimp only)
  go_wp2_with fail
  refine (G1.out _ hB2).mono ?_
  rintro e w' ⟨rfl, rfl⟩
  (try dsimp only)
  go_wp2_with fail
  refine (D0.out _ hB2).mono ?_
  rintro e w3 ⟨rfl, hb3⟩
  have r3 := r2.on hb3
  have hB3 : Below w.heap.size w w3 := hB2.trans (hb3.mono hB2.size)
  clear hb3 r2
  (try dsimp only)
  go_wp2_with fail
  refine (KO.out _ hB3).mono ?_
  rintro e w' ⟨rfl, rfl⟩
  (try dsimp only)
  obtain ⟨k0, k1, k2, k3, f0, f1, f2, f3, z0⟩ := r3.four
  go_wp2_with (go_at_call 34; refine (HF.out _).mono ?_; rintro e w' ⟨rfl, rfl⟩)
  refine bodyPost_ret (v := .tuple #[zeroV, .int .i64 0, .iface 47 (.pointer (some ⟨w3.heap.size, 0, none⟩))]) (by simp [results, Try.results36, go_sem, *]) rfl ?_
  refine ⟨_, rfl, hB3.size, Row.new' (by simp), ?_⟩
  repeat (first | (with_reducible exact Below.refl _ _) | (with_reducible refine Below.drew ?_) | (refine Below.setCell ?_ (by first | exact Nat.le_refl _ | (simp; done) | (simp; omega) | omega) _) | (refine Below.alloc ?_ (by first | exact Nat.le_refl _ | (simp; done) | (simp; omega) | omega) _) | (refine Below.trans ?_ (Below.mono (by assumption) (by first | exact Nat.le_refl _ | (simp; done) | (simp; omega) | omega))))

set_option maxRecDepth 100000 in
set_option maxHeartbeats 8000000 in
theorem mem8 {v : Value} {w : World} {q : Nat → Bool} {k m n x y : Nat} (hm : m ≤ 2000000000) (B0 : Hid (∀ W, Below w.heap.size w W → Calls Try.prog 38 #[v, .int .i64 (k : Int), .string ⟨#[91, 58]⟩] W fun e w' => e = .returned (.bool false) ∧ Below W.heap.size W w')) (LO : Hid (∀ W, Below w.heap.size w W → Calls Try.prog 40 #[v, .int .i64 (k : Int)] W fun e w' => e = .returned (.tuple #[.int .u8 (x : Int), .int .i64 (m : Int), .nilIface]) ∧ W = w')) (G1 : Hid (∀ W, Below w.heap.size w W → Calls Try.prog 41 #[v, .int .i64 (m : Int)] W fun e w' => e = .returned (.bool true) ∧ W = w')) (D0 : Hid (∀ W, Below w.heap.size w W → Calls Try.prog 38 #[v, .int .i64 ((m : Int) + 1), .string ⟨#[91, 58]⟩] W fun e w' => e = .returned (.bool false) ∧ Below W.heap.size W w')) (KO : Hid (∀ W, Below w.heap.size w W → Calls Try.prog 40 #[v, .int .i64 ((m : Int) + 1)] W fun e w' => e = .returned (.tuple #[.int .u8 (y : Int), .int .i64 (n : Int), .nilIface]) ∧ W = w')) (R2 : Hid (∀ W, Below w.heap.size w W → Calls Try.prog 28 #[.int .u8 (x : Int), .int .u8 (y : Int)] W fun e w' => e = .returned (setV q) ∧ Below W.heap.size W w')) (ht : decide (y < x) = false) :
    Calls Try.prog 36 #[v, .int .i64 (k : Int)] w fun e w' => e = .returned (.tuple #[setV q, .int .i64 (n : Int), .nilIface]) ∧ Below w.heap.size w w' := by
  have w1' : IntKind.i64.wrap ((m : Int) + 1) = (m : Int) + 1 := by rw [IntKind.wrap_i64]; omega
  go_enter Try.func36, Try.ntmps36
  go_upto_region 1 with fail
  have r1 : Row (w.alloc (.cells zA 26)) w.heap.size 26 zA := Row.new w _ _
  have hB1 : Below w.heap.size w (w.alloc (.cells zA 26)) := by repeat (first | (with_reducible exact Below.refl _ _) | (with_reducible refine Below.drew ?_) | (refine Below.setCell ?_ (by first | exact Nat.le_refl _ | (simp; done) | (simp; omega) | omega) _) | (refine Below.alloc ?_ (by first | exact Nat.le_refl _ | (simp; done) | (simp; omega) | omega) _) | (refine Below.trans ?_ (Below.mono (by assumption) (by first | exact Nat.le_refl _ | (simp; done) | (simp; omega) | omega))))
  generalize (w.alloc (.cells zA 26)) = w1 at *
  go_wp2_with fail
  refine (B0.out _ hB1).mono ?_
  rintro e w2 ⟨rfl, hb2⟩
  have r2 := r1.on hb2
  have hB2 : Below w.heap.size w w2 := hB1.trans (hb2.mono hB1.size)
  clear hb2 r1
  (try dsimp only)
  go_wp2_with fail
  refine (LO.out _ hB2).mono ?_
  rintro e w' ⟨rfl, rfl⟩
  (try dsimp only)
  go_wp2_with fail
  refine (G1.out _ hB2).mono ?_
  rintro e w' ⟨rfl, rfl⟩
  (try dsimp only)
  go_wp2_with fail
  refine (D0.out _ hB2).mono ?_
  rintro e w3 ⟨rfl, hb3⟩
  have r3 := r2.on hb3
  have hB3 : Below w.heap.size w w3 := hB2.trans (hb3.mono hB2.size)
  clear hb3 r2
  (try dsimp only)
  go_wp2_with fail
  refine (KO.out _ hB3).mono ?_
  rintro e w' ⟨rfl, rfl⟩
  (try dsimp only)
  go_wp2_with fail
  refine (R2.out _ hB3).mono ?_
  rintro e w4 ⟨rfl, hb4⟩
  have r4 := r3.on hb4
  have hB4 : Below w.heap.size w w4 := hB3.trans (hb4.mono hB3.size)
  clear hb4 r3
  (try dsimp only)
  obtain ⟨k0, k1, k2, k3, f0, f1, f2, f3, z0⟩ := r4.four
  go_wp2
  refine bodyPost_ret (v := .tuple #[setV q, .int .i64 (n : Int), .nilIface]) (by simp [results, Try.results36, go_sem, *]) rfl ⟨rfl, ?_⟩
  repeat (first | (with_reducible exact Below.refl _ _) | (with_reducible refine Below.drew ?_) | (refine Below.setCell ?_ (by first | exact Nat.le_refl _ | (simp; done) | (simp; omega) | omega) _) | (refine Below.alloc ?_ (by first | exact Nat.le_refl _ | (simp; done) | (simp; omega) | omega) _) | (refine Below.trans ?_ (Below.mono (by assumption) (by first | exact Nat.le_refl _ | (simp; done) | (simp; omega) | omega))))

end Go.Proofs.Ytfmekmbdienbjaa
