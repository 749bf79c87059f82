/- 'awake' of the statements of layer 2: the document's examples hold. -/
import Derived.Test.YtfecnogmjfmghaaDoorNumH
import Derived.Test.YtfecnogmjfmghaaDoorNumI
import Derived.Test.YtfecnogmjfmghaaDoorNumM
namespace Go.Proofs.YtfecnogmjfmghaaDoor
set_option linter.unusedSimpArgs false
set_option linter.unusedVariables false
set_option linter.unnecessarySimpa false
open Go.RowKit

/-- A block made of bytes reads as them. -/
theorem bs_new (w : World) (l : List UInt8) (T : TypeId) (fr : Nat × Nat) (hl : l.length ≤ maxLen) : BS (w.alloc (.cells (bvs l).toArray T fr)) (.slice (some ⟨w.heap.size, 0, none⟩) l.length l.length) l := by
  refine ⟨_, l.length, rfl, Nat.le_refl _, hl, fun _ => ⟨w.heap.size, 0, rfl, by simp, fun j hj => ?_⟩⟩
  rw [World.cell?_alloc_mark, List.getElem?_toArray, Nat.zero_add]
  exact bvs_get hj
def bl8 : List UInt8 := [32, 45, 49, 50, 46, 53, 48, 120]
def bl3 : List UInt8 := [32, 51, 32]
def bl2 : List UInt8 := [51, 120]
def mP : Nat := 12500000
theorem aw_p : numZ bl8 = -12500000 ∧ numN bl8 = 7 := by decide +kernel
theorem aw_t : textL false 500000 = [48, 46, 53] := by decide +kernel
theorem aw_l3 : looksB bl3 = true := by decide +kernel
theorem aw_l2 : looksB bl2 = false := by decide +kernel

theorem aw_v : (.tuple #[ZV (fitZ (-12500000)), .int .i64 ((7 : Nat) : Int), errV (fitC ((-12500000 : Int).natAbs))] : Value) = .tuple #[MV true mP, .int .i64 7, .nilIface] := by
  rw [show fitZ (-12500000) = -12500000 by decide, show fitC ((-12500000 : Int).natAbs) = 0 by decide, errV0]; rfl
theorem aw_b8 : (bvs bl8).toArray = #[.int .u8 32, .int .u8 45, .int .u8 49, .int .u8 50, .int .u8 46, .int .u8 53, .int .u8 48, .int .u8 120] := rfl
theorem aw_b3 : (bvs bl3).toArray = #[.int .u8 32, .int .u8 51, .int .u8 32] := rfl
theorem aw_b2 : (bvs bl2).toArray = #[.int .u8 51, .int .u8 120] := rfl
theorem aw_s : S8 [48, 46, 53] = ⟨#[48, 46, 53]⟩ := rfl
set_option maxRecDepth 100000 in
set_option maxHeartbeats 4000000 in
theorem awake2 (w : World) : Calls Tryd.prog 9 #[] w fun e w' => e = .returned (.bool true) ∧ Below w.heap.size w w' := by
  have kc := fun (w : World) (C : Array Value) (n c : Nat) => Lib.run_convert_bytes_const (P := Tryd.prog) w 22 5 C n c Tryd.underlying22 Tryd.underlying5
  have P1 : Hid (∀ W : World, Calls Tryd.prog 10 #[.slice (some ⟨W.heap.size, 0, none⟩) 8 8] (W.alloc (.cells #[.int .u8 32, .int .u8 45, .int .u8 49, .int .u8 50, .int .u8 46, .int .u8 53, .int .u8 48, .int .u8 120] 5 (8, 9))) fun e w' => e = .returned (.tuple #[MV true mP, .int .i64 7, .nilIface]) ∧ Below (W.alloc (.cells #[.int .u8 32, .int .u8 45, .int .u8 49, .int .u8 50, .int .u8 46, .int .u8 53, .int .u8 48, .int .u8 120] 5 (8, 9))).heap.size (W.alloc (.cells #[.int .u8 32, .int .u8 45, .int .u8 49, .int .u8 50, .int .u8 46, .int .u8 53, .int .u8 48, .int .u8 120] 5 (8, 9))) w') := by
    intro W
    have := prefix_u (bs_new W bl8 5 (8, 9) (by decide)) (by decide)
    rw [aw_p.1, aw_p.2, aw_v, aw_b8] at this
    exact this
  have T1 : Hid (∀ W : World, Calls Tryd.prog 18 #[.agg #[.bool false, .int .u64 0, .int .u64 500000]] W fun e w' => e = .returned (.string ⟨#[48, 46, 53]⟩) ∧ Below W.heap.size W w') := by
    intro W
    have := text_u false 500000 W
    rw [aw_t, aw_s] at this
    exact this
  have K1 : Hid (∀ W : World, Calls Tryd.prog 13 #[.slice (some ⟨W.heap.size, 0, none⟩) 3 3] (W.alloc (.cells #[.int .u8 32, .int .u8 51, .int .u8 32] 5 (3, 4))) fun e w' => e = .returned (.bool true) ∧ Below (W.alloc (.cells #[.int .u8 32, .int .u8 51, .int .u8 32] 5 (3, 4))).heap.size (W.alloc (.cells #[.int .u8 32, .int .u8 51, .int .u8 32] 5 (3, 4))) w') := by
    intro W
    have := looks_u (bs_new W bl3 5 (3, 4) (by decide)) (by decide)
    rw [aw_l3, aw_b3] at this
    exact this
  have K2 : Hid (∀ W : World, Calls Tryd.prog 13 #[.slice (some ⟨W.heap.size, 0, none⟩) 2 2] (W.alloc (.cells #[.int .u8 51, .int .u8 120] 5 (2, 3))) fun e w' => e = .returned (.bool false) ∧ Below (W.alloc (.cells #[.int .u8 51, .int .u8 120] 5 (2, 3))).heap.size (W.alloc (.cells #[.int .u8 51, .int .u8 120] 5 (2, 3))) w') := by
    intro W
    have := looks_u (bs_new W bl2 5 (2, 3) (by decide)) (by decide)
    rw [aw_l2, aw_b2] at this
    exact this
  have eA : ∀ w, (binOp .eql 26 (MV true mP) (.agg #[.bool true, .int .u64 0, .int .u64 12500000])).run Tryd.prog w = .ok (.bool true) w := fun w => eql_mm true true mP mP w
  go_enter Tryd.func9, Tryd.ntmps9
  go_wp2_with fail
  refine (P1.out _).mono ?_; rintro ew1 w1 ⟨rfl, hbw1⟩; obtain ⟨hcw1, hfw1⟩ := bcell hbw1; (try simp only [World.size_drew, World.cell?_drew, World.frozen?_drew] at hcw1 hfw1); have hzw1 := hbw1.size; (try simp at hzw1); have : w.heap.size < w1.heap.size := (by omega); (try dsimp only)
  go_wp2_with fail
  refine (T1.out _).mono ?_; rintro ew2 w2 ⟨rfl, hbw2⟩; obtain ⟨hcw2, hfw2⟩ := bcell hbw2; (try simp only [World.size_drew, World.cell?_drew, World.frozen?_drew] at hcw2 hfw2); have hzw2 := hbw2.size; (try simp at hzw2); have : w.heap.size < w2.heap.size := (by omega); have : w1.heap.size < w2.heap.size := (by omega); (try dsimp only)
  go_wp2_with fail
  refine (K1.out _).mono ?_; rintro ew3 w3 ⟨rfl, hbw3⟩; obtain ⟨hcw3, hfw3⟩ := bcell hbw3; (try simp only [World.size_drew, World.cell?_drew, World.frozen?_drew] at hcw3 hfw3); have hzw3 := hbw3.size; (try simp at hzw3); have : w.heap.size < w3.heap.size := (by omega); have : w1.heap.size < w3.heap.size := (by omega); have : w2.heap.size < w3.heap.size := (by omega); (try dsimp only)
  go_wp2_with fail
  refine (K2.out _).mono ?_; rintro ew4 w4 ⟨rfl, hbw4⟩; obtain ⟨hcw4, hfw4⟩ := bcell hbw4; (try simp only [World.size_drew, World.cell?_drew, World.frozen?_drew] at hcw4 hfw4); have hzw4 := hbw4.size; (try simp at hzw4); have : w.heap.size < w4.heap.size := (by omega); have : w1.heap.size < w4.heap.size := (by omega); have : w2.heap.size < w4.heap.size := (by omega); have : w3.heap.size < w4.heap.size := (by omega); (try dsimp only)
  go_wp2
  go_ret
  refine ⟨rfl, ?_⟩
  repeat (first | (with_reducible exact Below.refl _ _) | (with_reducible refine Below.drew ?_) | (refine Below.setCell ?_ (by first | exact Nat.le_refl _ | (simp; done) | (simp; omega) | omega) _) | (refine Below.alloc ?_ (by first | exact Nat.le_refl _ | (simp; done) | (simp; omega) | omega) _) | (refine Below.trans ?_ (Below.mono (by assumption) (by first | exact Nat.le_refl _ | (simp; done) | (simp; omega) | omega))))
end Go.Proofs.YtfecnogmjfmghaaDoor
