/- 'awake' of the statements of layer 3: the document's examples hold. -/
import Derived.Test.YtfmekmbdienbjaaDoorSetM
namespace Go.Proofs.YtfmekmbdienbjaaDoor
set_option linter.unusedSimpArgs false
set_option linter.unusedVariables false
set_option linter.unnecessarySimpa false
open Go.RowKit

def aw1 : List UInt8 := [91, 97, 45, 99, 93, 120]
def aw2 : List UInt8 := [91, 93, 94, 93]
def awP : Nat → Bool := fun x => nonP x || rngP 97 99 x
def awQ : Nat → Bool := fun x => (fun y => nonP y || rngP 93 93 y) x || rngP 94 94 x
theorem aw1_run : RunB aw1 (begB aw1 0) true nonP (.ok awP 4) :=
  .step 1 true nonP (rngP 97 99) 4 _ (Or.inl rfl) (by kernel_rfl) (.stop 4 _ (by kernel_rfl))
theorem aw2_run : RunB aw2 (begB aw2 0) true nonP (.ok awQ 3) :=
  .step 1 true nonP (rngP 93 93) 2 _ (Or.inl rfl) (by kernel_rfl) (.step 2 false _ (rngP 94 94) 3 _ (Or.inr (by kernel_rfl)) (by kernel_rfl) (.stop 3 _ (by kernel_rfl)))
theorem aw_c1 : cntP awP 256 = 3 := by decide +kernel
theorem aw_c2 : cntP awQ 256 = 2 := by decide +kernel
theorem awB1 (W : World) (hM : HM W) : Calls Tryd.prog 7 #[.slice (some ⟨W.heap.size, 0, none⟩) 6 6, .int .i64 0] (W.alloc (.cells #[.int .u8 91, .int .u8 97, .int .u8 45, .int .u8 99, .int .u8 93, .int .u8 120] 5 (6, 7))) fun e w' => e = .returned (.tuple #[setV awP, .int .i64 5, .nilIface]) ∧ Below (W.alloc (.cells #[.int .u8 91, .int .u8 97, .int .u8 45, .int .u8 99, .int .u8 93, .int .u8 120] 5 (6, 7))).heap.size (W.alloc (.cells #[.int .u8 91, .int .u8 97, .int .u8 45, .int .u8 99, .int .u8 93, .int .u8 120] 5 (6, 7))) w' :=
  brk_u (bs_new W aw1 5 (6, 7) (by decide)) (by decide) (hM.on ((Below.refl _ _).alloc (Nat.le_refl _) _)) 0 (by kernel_rfl) _ aw1_run
theorem awB2 (W : World) (hM : HM W) : Calls Tryd.prog 7 #[.slice (some ⟨W.heap.size, 0, none⟩) 4 4, .int .i64 0] (W.alloc (.cells #[.int .u8 91, .int .u8 93, .int .u8 94, .int .u8 93] 5 (4, 5))) fun e w' => e = .returned (.tuple #[setV awQ, .int .i64 4, .nilIface]) ∧ Below (W.alloc (.cells #[.int .u8 91, .int .u8 93, .int .u8 94, .int .u8 93] 5 (4, 5))).heap.size (W.alloc (.cells #[.int .u8 91, .int .u8 93, .int .u8 94, .int .u8 93] 5 (4, 5))) w' :=
  brk_u (bs_new W aw2 5 (4, 5) (by decide)) (by decide) (hM.on ((Below.refl _ _).alloc (Nat.le_refl _) _)) 0 (by kernel_rfl) _ aw2_run
set_option maxRecDepth 100000 in
set_option maxHeartbeats 8000000 in
theorem awake3 (w : World) (hM : HM w) : Calls Tryd.prog 6 #[] w fun e w' => e = .returned (.bool true) ∧ Below w.heap.size w w' := by
  have kc := fun (w : World) (C : Array Value) (n c : Nat) => Lib.run_convert_bytes_const (P := Tryd.prog) w 22 5 C n c Tryd.underlying22 Tryd.underlying5
  have A1 := Lib.hid awB1
  have A2 := Lib.hid awB2
  have C1 : Hid (∀ W, Calls Tryd.prog 20 #[setV awP] W fun e w' => e = .returned (.int .i64 3) ∧ Below W.heap.size W w') := fun W => by
    have := count_u awP W
    rwa [aw_c1] at this
  have C2 : Hid (∀ W, Calls Tryd.prog 20 #[setV awQ] W fun e w' => e = .returned (.int .i64 2) ∧ Below W.heap.size W w') := fun W => by
    have := count_u awQ W
    rwa [aw_c2] at this
  have H1 : Hid (∀ W, Calls Tryd.prog 21 #[setV awP, .int .u8 98] W fun e w' => e = .returned (.bool true) ∧ Below W.heap.size W w') := fun W => has_u awP 98 W
  have H2 : Hid (∀ W, Calls Tryd.prog 21 #[setV awQ, .int .u8 93] W fun e w' => e = .returned (.bool true) ∧ Below W.heap.size W w') := fun W => has_u awQ 93 W
  go_enter Tryd.func6, Tryd.ntmps6
  go_wp2_with fail
  refine (A1.out w hM).mono ?_; rintro e w2 ⟨rfl, hb2⟩; (try dsimp only)
  have hBw2 : Below w.heap.size w w2 := by repeat (first | (with_reducible exact Below.refl _ _) | (with_reducible refine Below.drew ?_) | (refine Below.setCell ?_ (by first | exact Nat.le_refl _ | (simp; done) | (simp; omega) | omega) _) | (refine Below.alloc ?_ (by first | exact Nat.le_refl _ | (simp; done) | (simp; omega) | omega) _) | (refine Below.trans ?_ (Below.mono (by assumption) (by first | exact Nat.le_refl _ | (simp; done) | (simp; omega) | omega))))
  clear hb2
  go_upto_region 2 with fail
  have hsw2 : w.heap.size ≤ w2.heap.size := hBw2.size
  have ra : Row (w2.alloc (.cells (setA awP) 26)) w2.heap.size 26 (setA awP) := Row.new w2 _ _
  have hBw3 : Below w.heap.size w (w2.alloc (.cells (setA awP) 26)) := by repeat (first | (with_reducible exact Below.refl _ _) | (with_reducible refine Below.drew ?_) | (refine Below.setCell ?_ (by first | exact Nat.le_refl _ | (simp; done) | (simp; omega) | omega) _) | (refine Below.alloc ?_ (by first | exact Nat.le_refl _ | (simp; done) | (simp; omega) | omega) _) | (refine Below.trans ?_ (Below.mono (by assumption) (by first | exact Nat.le_refl _ | (simp; done) | (simp; omega) | omega))))
  generalize (w2.alloc (.cells (setA awP) 26)) = w3 at *
  go_wp2_with fail
  refine (A2.out w3 (hM.on hBw3)).mono ?_; rintro e w4 ⟨rfl, hb4⟩; (try dsimp only)
  have hs3 : w.heap.size ≤ w3.heap.size := hBw3.size
  have hBw4 : Below w.heap.size w w4 := (hBw3.alloc hs3 _).trans (hb4.mono (by simp; omega))
  have ra := (ra.alloc (.cells #[.int .u8 91, .int .u8 93, .int .u8 94, .int .u8 93] 5 (4, 5))).on hb4
  clear hb4
  go_upto_region 3 with fail
  have hsw4 : w.heap.size ≤ w4.heap.size := hBw4.size
  have rb : Row (w4.alloc (.cells (setA awQ) 26)) w4.heap.size 26 (setA awQ) := Row.new w4 _ _
  have hBw5 : Below w.heap.size w (w4.alloc (.cells (setA awQ) 26)) := by repeat (first | (with_reducible exact Below.refl _ _) | (with_reducible refine Below.drew ?_) | (refine Below.setCell ?_ (by first | exact Nat.le_refl _ | (simp; done) | (simp; omega) | omega) _) | (refine Below.alloc ?_ (by first | exact Nat.le_refl _ | (simp; done) | (simp; omega) | omega) _) | (refine Below.trans ?_ (Below.mono (by assumption) (by first | exact Nat.le_refl _ | (simp; done) | (simp; omega) | omega))))
  have ra := ra.alloc (.cells (setA awQ) 26)
  generalize (w4.alloc (.cells (setA awQ) 26)) = w5 at *
  obtain ⟨k0, k1, k2, k3, f0, f1, f2, f3, z0⟩ := ra.four
  obtain ⟨m0, m1, m2, m3, g0, g1, g2, g3, y0⟩ := rb.four
  clear f0 f1 f2 f3 g0 g1 g2 g3
  go_wp2_with fail
  refine (C1.out _).mono ?_; rintro ew6 w6 ⟨rfl, hbw6⟩; obtain ⟨hcw6, hfw6⟩ := bcell hbw6; (try simp only [World.size_drew, World.cell?_drew, World.frozen?_drew] at hcw6 hfw6); have hzw6 := hbw6.size; (try simp at hzw6); have : w2.heap.size < w6.heap.size := (by omega); have : w4.heap.size < w6.heap.size := (by omega); (try dsimp only)
  go_wp2_with fail
  refine (H1.out _).mono ?_; rintro ew7 w7 ⟨rfl, hbw7⟩; obtain ⟨hcw7, hfw7⟩ := bcell hbw7; (try simp only [World.size_drew, World.cell?_drew, World.frozen?_drew] at hcw7 hfw7); have hzw7 := hbw7.size; (try simp at hzw7); have : w2.heap.size < w7.heap.size := (by omega); have : w4.heap.size < w7.heap.size := (by omega); (try dsimp only)
  go_wp2_with fail
  refine (C2.out _).mono ?_; rintro ew8 w8 ⟨rfl, hbw8⟩; obtain ⟨hcw8, hfw8⟩ := bcell hbw8; (try simp only [World.size_drew, World.cell?_drew, World.frozen?_drew] at hcw8 hfw8); have hzw8 := hbw8.size; (try simp at hzw8); have : w2.heap.size < w8.heap.size := (by omega); have : w4.heap.size < w8.heap.size := (by omega); (try dsimp only)
  go_wp2_with fail
  refine (H2.out _).mono ?_; rintro ew9 w9 ⟨rfl, hbw9⟩; obtain ⟨hcw9, hfw9⟩ := bcell hbw9; (try simp only [World.size_drew, World.cell?_drew, World.frozen?_drew] at hcw9 hfw9); have hzw9 := hbw9.size; (try simp at hzw9); have : w2.heap.size < w9.heap.size := (by omega); have : w4.heap.size < w9.heap.size := (by omega); (try dsimp only)
  go_wp2
  go_ret
  refine ⟨rfl, ?_⟩
  have hB6 := hBw5.trans (hbw6.mono hBw5.size)
  have hB7 := hB6.trans (hbw7.mono hB6.size)
  have hB8 := hB7.trans (hbw8.mono hB7.size)
  exact hB8.trans (hbw9.mono hB8.size)
end Go.Proofs.YtfmekmbdienbjaaDoor
