/- The walk of EreTimes. -/
import Derived.Test.YtfmekmbdienbjaaDoorEreV
namespace Go.Proofs.YtfmekmbdienbjaaDoor
set_option linter.unusedSimpArgs false
set_option linter.unusedVariables false
set_option linter.unnecessarySimpa false
open Go.RowKit

set_option maxRecDepth 100000 in
set_option maxHeartbeats 16000000 in
theorem times_oo (f g m n : Nat) (hf : f < 65536) (hg : g < 65536) (hm : m = f % 1000) (hn : n = g % 1000) (h1 : m ≤ 255) (w : World) (hM : HM w) (hE : HE w) :
    Calls Tryd.prog 5 #[.int .u16 (f : Int), .int .u16 (g : Int), .bool true] w fun e w' => e = .returned (.bool true) ∧ Below w.heap.size w w' := by
  have t1 : decide ((255 : Int) < (m : Int)) = false := decide_eq_false (by omega)
  have t1' : decide (255 < m) = false := decide_eq_false (by omega)
  have m9 : m < 1000 := by omega
  have n9 : n < 1000 := by omega
  have hb : boundsB (m : Int) (-1) = true := by unfold boundsB; rw [decide_eq_true (by omega : (0 : Int) ≤ (m : Int)), decide_eq_true (by omega : (m : Int) ≤ 255)]; rfl
  have hRun := tm_ok m9 none (by intro n h; cases h) hb
  have hTop := @tm_top_ok m none (.node 4 nonP m (-1) [setT (rngP 120 120)])
  have HPA := Lib.hid (fun W hW => tim_cv (Nat.le_trans (tmL_len m none) (by omega)) _ hRun _ hTop W hW)
  have HA := Lib.hid (awake4 w hM)
  have HM0 := Lib.hid hM
  have HE0 := Lib.hid hE
  have e1 : Int.tmod (f : Int) 1000 = (m : Int) := by rw [hm]; rfl
  have e2 : Int.tmod (g : Int) 1000 = (n : Int) := by rw [hn]; rfl
  have w1 : IntKind.i64.wrap (f : Int) = (f : Int) := by rw [IntKind.wrap_i64]; omega
  have w2 : IntKind.i64.wrap (g : Int) = (g : Int) := by rw [IntKind.wrap_i64]; omega
  have w3 : IntKind.i64.wrap (m : Int) = (m : Int) := by rw [IntKind.wrap_i64]; omega
  have w4 : IntKind.i64.wrap (n : Int) = (n : Int) := by rw [IntKind.wrap_i64]; omega
  have D1 := Lib.hid (dig_u m m9)
  have D2 := Lib.hid (dig_u n n9)
  have hss : (⟨#[120, 123]⟩ : ByteArray) ++ S8 (d3 m) ++ ⟨#[44]⟩ ++ ⟨#[125]⟩ = S8 (tmL m none) := by
    rw [show (⟨#[120, 123]⟩ : ByteArray) = S8 [120, 123] from rfl, show (⟨#[44]⟩ : ByteArray) = S8 [44] from rfl, show (⟨#[125]⟩ : ByteArray) = S8 [125] from rfl, S8_add, S8_add, S8_add]; rfl
  have cv : ∀ W, (convert 9 22 (.string ((⟨#[120, 123]⟩ : ByteArray) ++ S8 (d3 m) ++ ⟨#[44]⟩ ++ ⟨#[125]⟩))).run Tryd.prog W = .ok (.slice (some ⟨W.heap.size, 0, none⟩) (tmL m none).length (cvCap W (tmL m none))) (cvW W (tmL m none)) := fun W => by rw [hss]; exact run_cv _ W
  clear hss hM hE hRun hTop hm hn hb
  generalize tmL m none = l at *
  go_enter Tryd.func5, Tryd.ntmps5
  go_wp2_with fail
  refine (HA.out).mono ?_; rintro e w1 ⟨rfl, hb1⟩; (try dsimp only)
  have B1 := Lib.hid hb1
  clear hb1 HA
  go_wp2_with fail
  refine (D1.out _).mono ?_; rintro e w2 ⟨rfl, hb2⟩; (try dsimp only)
  have B2 : Hid (Below w.heap.size w w2) := below_on B1.out hb2
  clear hb2 B1 D1
  go_wp2_with fail
  refine (HPA.out w2 (HM0.out.on B2.out)).mono ?_; rintro e w4 ⟨cs, ev, rfl, ho, hb4⟩; (try dsimp only)
  have B4 : Hid (Below w.heap.size w w4) := below_on B2.out hb4
  clear hb4 B2 HPA
  obtain ⟨rfl, ad, cap, rfl⟩ := ho
  go_upto_region 8 with fail
  have r5 : Row (w4.alloc (.cells (partA 4 nonP m (-1) (.slice ad 1 cap)) 41)) w4.heap.size 41 (partA 4 nonP m (-1) (.slice ad 1 cap)) := Row.new w4 _ _
  have B5 : Hid (Below w.heap.size w (w4.alloc (.cells (partA 4 nonP m (-1) (.slice ad 1 cap)) 41))) := B4.out.alloc B4.out.size _
  generalize (w4.alloc (.cells (partA 4 nonP m (-1) (.slice ad 1 cap)) 41)) = w5 at *
  obtain ⟨g5, hg5⟩ : ∃ x, x = w4.heap.size := ⟨_, rfl⟩
  rw [← hg5]
  rw [← hg5] at r5
  clear hg5 B4
  have p0 : w5.cell? ⟨g5, 0, none⟩ = some (.int .i64 4) := r5.cell 0
  have p5 : w5.cell? ⟨g5, 5, none⟩ = some (.int .i64 (m : Int)) := r5.cell 5
  have p6 : w5.cell? ⟨g5, 6, none⟩ = some (.int .i64 (-1)) := r5.cell 6
  have p7 : w5.cell? ⟨g5, 7, none⟩ = some (.slice ad 1 cap) := r5.cell 7
  have hl5 := r5.lt
  clear r5
  go_wp2
  go_ret
  exact ⟨rfl, B5.out⟩
set_option maxRecDepth 100000 in
set_option maxHeartbeats 16000000 in
theorem times_ob (f g m n : Nat) (hf : f < 65536) (hg : g < 65536) (hm : m = f % 1000) (hn : n = g % 1000) (h1 : 255 < m) (w : World) (hM : HM w) (hE : HE w) :
    Calls Tryd.prog 5 #[.int .u16 (f : Int), .int .u16 (g : Int), .bool true] w fun e w' => e = .returned (.bool true) ∧ Below w.heap.size w w' := by
  have t1 : decide ((255 : Int) < (m : Int)) = true := decide_eq_true (by omega)
  have t1' : decide (255 < m) = true := decide_eq_true (by omega)
  have m9 : m < 1000 := by omega
  have n9 : n < 1000 := by omega
  have hb : boundsB (m : Int) (-1) = false := by unfold boundsB; rw [decide_eq_false (by omega : ¬ (m : Int) ≤ 255), Bool.and_false, Bool.false_and]
  have hRun := tm_bad m9 none (by intro n h; cases h) hb
  have hTop := @tm_top_bad m none
  have HPA := Lib.hid (fun W hW => tim_cv (Nat.le_trans (tmL_len m none) (by omega)) _ hRun _ hTop W hW)
  have HA := Lib.hid (awake4 w hM)
  have HM0 := Lib.hid hM
  have HE0 := Lib.hid hE
  have e1 : Int.tmod (f : Int) 1000 = (m : Int) := by rw [hm]; rfl
  have e2 : Int.tmod (g : Int) 1000 = (n : Int) := by rw [hn]; rfl
  have w1 : IntKind.i64.wrap (f : Int) = (f : Int) := by rw [IntKind.wrap_i64]; omega
  have w2 : IntKind.i64.wrap (g : Int) = (g : Int) := by rw [IntKind.wrap_i64]; omega
  have w3 : IntKind.i64.wrap (m : Int) = (m : Int) := by rw [IntKind.wrap_i64]; omega
  have w4 : IntKind.i64.wrap (n : Int) = (n : Int) := by rw [IntKind.wrap_i64]; omega
  have D1 := Lib.hid (dig_u m m9)
  have D2 := Lib.hid (dig_u n n9)
  have hss : (⟨#[120, 123]⟩ : ByteArray) ++ S8 (d3 m) ++ ⟨#[44]⟩ ++ ⟨#[125]⟩ = S8 (tmL m none) := by
    rw [show (⟨#[120, 123]⟩ : ByteArray) = S8 [120, 123] from rfl, show (⟨#[44]⟩ : ByteArray) = S8 [44] from rfl, show (⟨#[125]⟩ : ByteArray) = S8 [125] from rfl, S8_add, S8_add, S8_add]; rfl
  have cv : ∀ W, (convert 9 22 (.string ((⟨#[120, 123]⟩ : ByteArray) ++ S8 (d3 m) ++ ⟨#[44]⟩ ++ ⟨#[125]⟩))).run Tryd.prog W = .ok (.slice (some ⟨W.heap.size, 0, none⟩) (tmL m none).length (cvCap W (tmL m none))) (cvW W (tmL m none)) := fun W => by rw [hss]; exact run_cv _ W
  clear hss hM hE hRun hTop hm hn hb
  generalize tmL m none = l at *
  go_enter Tryd.func5, Tryd.ntmps5
  go_wp2_with fail
  refine (HA.out).mono ?_; rintro e w1 ⟨rfl, hb1⟩; (try dsimp only)
  have B1 := Lib.hid hb1
  clear hb1 HA
  go_wp2_with fail
  refine (D1.out _).mono ?_; rintro e w2 ⟨rfl, hb2⟩; (try dsimp only)
  have B2 : Hid (Below w.heap.size w w2) := below_on B1.out hb2
  clear hb2 B1 D1
  go_wp2_with fail
  refine (HPA.out w2 (HM0.out.on B2.out)).mono ?_; rintro e w4 ⟨cs, ev, rfl, ho, hb4⟩; (try dsimp only)
  have B4 : Hid (Below w.heap.size w w4) := below_on B2.out hb4
  clear hb4 B2 HPA
  obtain ⟨rfl, b, rfl, hfr⟩ := ho
  go_upto_region 8 with fail
  have r5 : Row (w4.alloc (.cells zeroPA 41)) w4.heap.size 41 zeroPA := Row.new w4 _ _
  have B5 : Hid (Below w.heap.size w (w4.alloc (.cells zeroPA 41))) := B4.out.alloc B4.out.size _
  have F5 : Hid (FRow (w4.alloc (.cells zeroPA 41)) b 1 5) := hfr.alloc _
  clear hfr r5
  generalize (w4.alloc (.cells zeroPA 41)) = w5 at *
  clear B4
  go_upto_region 10 with fail
  have F6 : FRow (w5.alloc (.cells #[.pointer none] 50)) b 1 5 := F5.out.alloc _
  have B6 : Below w5.heap.size w5 (w5.alloc (.cells #[.pointer none] 50)) := (Below.refl _ _).alloc (Nat.le_refl _) _
  have CC := Lib.hid (code_fault b 5 (by omega) (by omega) (w5.alloc (.cells #[.pointer none] 50)) (by rw [F6.cell]; rfl))
  have AS := Lib.hid (as_own b w5 (HE0.out.on B5.out))
  have hbl : b < w5.heap.size := F5.out.lt
  have HC1 : Hid (w5.cell? ⟨b, 0, none⟩ = some (.int .i64 1)) := F5.out.cell 0
  clear F6 F5 B6
  go_wp2_with fail
  refine (CC.out).mono ?_; rintro e w6 ⟨rfl, rfl⟩; (try dsimp only)
  go_wp2_with fail
  refine (AS.out).mono ?_; rintro e u ⟨rfl, hBu, k0⟩; (try dsimp only)
  have k1 : u.cell? ⟨b, 0, none⟩ = some (.int .i64 1) := (hBu.cell (p := ⟨b, 0, none⟩) hbl).trans HC1.out
  have B7 : Hid (Below w.heap.size w u) := below_on B5.out hBu
  have hbu : b < u.heap.size := Nat.lt_of_lt_of_le hbl hBu.size
  have hgu := hBu.size
  clear hBu B5 CC AS HC1
  go_wp2
  go_ret
  exact ⟨rfl, B7.out⟩
set_option maxRecDepth 100000 in
set_option maxHeartbeats 16000000 in
theorem times_co (f g m n : Nat) (hf : f < 65536) (hg : g < 65536) (hm : m = f % 1000) (hn : n = g % 1000) (h1 : m ≤ 255) (h2 : n ≤ 255) (h3 : m ≤ n) (w : World) (hM : HM w) (hE : HE w) :
    Calls Tryd.prog 5 #[.int .u16 (f : Int), .int .u16 (g : Int), .bool false] w fun e w' => e = .returned (.bool true) ∧ Below w.heap.size w w' := by
  have t1 : decide ((255 : Int) < (m : Int)) = false := decide_eq_false (by omega)
  have t1' : decide (255 < m) = false := decide_eq_false (by omega)
  have t2 : decide ((255 : Int) < (n : Int)) = false := decide_eq_false (by omega)
  have t2' : decide (255 < n) = false := decide_eq_false (by omega)
  have t3 : decide ((n : Int) < (m : Int)) = false := decide_eq_false (by omega)
  have t3' : decide (n < m) = false := decide_eq_false (by omega)
  have m9 : m < 1000 := by omega
  have n9 : n < 1000 := by omega
  have hb : boundsB (m : Int) (n : Int) = true := by unfold boundsB; rw [decide_eq_true (by omega : (0 : Int) ≤ (m : Int)), decide_eq_true (by omega : (m : Int) ≤ 255), decide_eq_true (by omega : (m : Int) ≤ (n : Int)), decide_eq_true (by omega : (n : Int) ≤ 255)]; simp
  have hRun := tm_ok m9 (some n) (by intro n1 h; injection h with h; omega) hb
  have hTop := @tm_top_ok m (some n) (.node 4 nonP m (n : Int) [setT (rngP 120 120)])
  have HPA := Lib.hid (fun W hW => tim_cv (Nat.le_trans (tmL_len m (some n)) (by omega)) _ hRun _ hTop W hW)
  have HA := Lib.hid (awake4 w hM)
  have HM0 := Lib.hid hM
  have HE0 := Lib.hid hE
  have e1 : Int.tmod (f : Int) 1000 = (m : Int) := by rw [hm]; rfl
  have e2 : Int.tmod (g : Int) 1000 = (n : Int) := by rw [hn]; rfl
  have w1 : IntKind.i64.wrap (f : Int) = (f : Int) := by rw [IntKind.wrap_i64]; omega
  have w2 : IntKind.i64.wrap (g : Int) = (g : Int) := by rw [IntKind.wrap_i64]; omega
  have w3 : IntKind.i64.wrap (m : Int) = (m : Int) := by rw [IntKind.wrap_i64]; omega
  have w4 : IntKind.i64.wrap (n : Int) = (n : Int) := by rw [IntKind.wrap_i64]; omega
  have D1 := Lib.hid (dig_u m m9)
  have D2 := Lib.hid (dig_u n n9)
  have hss : (⟨#[120, 123]⟩ : ByteArray) ++ S8 (d3 m) ++ ⟨#[44]⟩ ++ S8 (d3 n) ++ ⟨#[125]⟩ = S8 (tmL m (some n)) := by
    rw [show (⟨#[120, 123]⟩ : ByteArray) = S8 [120, 123] from rfl, show (⟨#[44]⟩ : ByteArray) = S8 [44] from rfl, show (⟨#[125]⟩ : ByteArray) = S8 [125] from rfl, S8_add, S8_add, S8_add, S8_add]; rfl
  have cv : ∀ W, (convert 9 22 (.string ((⟨#[120, 123]⟩ : ByteArray) ++ S8 (d3 m) ++ ⟨#[44]⟩ ++ S8 (d3 n) ++ ⟨#[125]⟩))).run Tryd.prog W = .ok (.slice (some ⟨W.heap.size, 0, none⟩) (tmL m (some n)).length (cvCap W (tmL m (some n)))) (cvW W (tmL m (some n))) := fun W => by rw [hss]; exact run_cv _ W
  clear hss hM hE hRun hTop hm hn hb
  generalize tmL m (some n) = l at *
  go_enter Tryd.func5, Tryd.ntmps5
  go_wp2_with fail
  refine (HA.out).mono ?_; rintro e w1 ⟨rfl, hb1⟩; (try dsimp only)
  have B1 := Lib.hid hb1
  clear hb1 HA
  go_wp2_with fail
  refine (D1.out _).mono ?_; rintro e w2 ⟨rfl, hb2⟩; (try dsimp only)
  have B2 : Hid (Below w.heap.size w w2) := below_on B1.out hb2
  clear hb2 B1 D1
  go_wp2_with fail
  refine (D2.out _).mono ?_; rintro e w3 ⟨rfl, hb3⟩; (try dsimp only)
  have B3 : Hid (Below w.heap.size w w3) := below_on B2.out hb3
  clear hb3 B2 D2
  go_wp2_with fail
  refine (HPA.out w3 (HM0.out.on B3.out)).mono ?_; rintro e w4 ⟨cs, ev, rfl, ho, hb4⟩; (try dsimp only)
  have B4 : Hid (Below w.heap.size w w4) := below_on B3.out hb4
  clear hb4 B3 HPA
  obtain ⟨rfl, ad, cap, rfl⟩ := ho
  go_upto_region 8 with fail
  have r5 : Row (w4.alloc (.cells (partA 4 nonP m (n : Int) (.slice ad 1 cap)) 41)) w4.heap.size 41 (partA 4 nonP m (n : Int) (.slice ad 1 cap)) := Row.new w4 _ _
  have B5 : Hid (Below w.heap.size w (w4.alloc (.cells (partA 4 nonP m (n : Int) (.slice ad 1 cap)) 41))) := B4.out.alloc B4.out.size _
  generalize (w4.alloc (.cells (partA 4 nonP m (n : Int) (.slice ad 1 cap)) 41)) = w5 at *
  obtain ⟨g5, hg5⟩ : ∃ x, x = w4.heap.size := ⟨_, rfl⟩
  rw [← hg5]
  rw [← hg5] at r5
  clear hg5 B4
  have p0 : w5.cell? ⟨g5, 0, none⟩ = some (.int .i64 4) := r5.cell 0
  have p5 : w5.cell? ⟨g5, 5, none⟩ = some (.int .i64 (m : Int)) := r5.cell 5
  have p6 : w5.cell? ⟨g5, 6, none⟩ = some (.int .i64 (n : Int)) := r5.cell 6
  have p7 : w5.cell? ⟨g5, 7, none⟩ = some (.slice ad 1 cap) := r5.cell 7
  have hl5 := r5.lt
  clear r5
  go_wp2
  go_ret
  exact ⟨rfl, B5.out⟩
set_option maxRecDepth 100000 in
set_option maxHeartbeats 16000000 in
theorem times_c1 (f g m n : Nat) (hf : f < 65536) (hg : g < 65536) (hm : m = f % 1000) (hn : n = g % 1000) (h1 : 255 < m) (w : World) (hM : HM w) (hE : HE w) :
    Calls Tryd.prog 5 #[.int .u16 (f : Int), .int .u16 (g : Int), .bool false] w fun e w' => e = .returned (.bool true) ∧ Below w.heap.size w w' := by
  have t1 : decide ((255 : Int) < (m : Int)) = true := decide_eq_true (by omega)
  have t1' : decide (255 < m) = true := decide_eq_true (by omega)
  have m9 : m < 1000 := by omega
  have n9 : n < 1000 := by omega
  have hb : boundsB (m : Int) (n : Int) = false := by unfold boundsB; rw [decide_eq_false (by omega : ¬ (m : Int) ≤ 255), Bool.and_false, Bool.false_and]
  have hRun := tm_bad m9 (some n) (by intro n1 h; injection h with h; omega) hb
  have hTop := @tm_top_bad m (some n)
  have HPA := Lib.hid (fun W hW => tim_cv (Nat.le_trans (tmL_len m (some n)) (by omega)) _ hRun _ hTop W hW)
  have HA := Lib.hid (awake4 w hM)
  have HM0 := Lib.hid hM
  have HE0 := Lib.hid hE
  have e1 : Int.tmod (f : Int) 1000 = (m : Int) := by rw [hm]; rfl
  have e2 : Int.tmod (g : Int) 1000 = (n : Int) := by rw [hn]; rfl
  have w1 : IntKind.i64.wrap (f : Int) = (f : Int) := by rw [IntKind.wrap_i64]; omega
  have w2 : IntKind.i64.wrap (g : Int) = (g : Int) := by rw [IntKind.wrap_i64]; omega
  have w3 : IntKind.i64.wrap (m : Int) = (m : Int) := by rw [IntKind.wrap_i64]; omega
  have w4 : IntKind.i64.wrap (n : Int) = (n : Int) := by rw [IntKind.wrap_i64]; omega
  have D1 := Lib.hid (dig_u m m9)
  have D2 := Lib.hid (dig_u n n9)
  have hss : (⟨#[120, 123]⟩ : ByteArray) ++ S8 (d3 m) ++ ⟨#[44]⟩ ++ S8 (d3 n) ++ ⟨#[125]⟩ = S8 (tmL m (some n)) := by
    rw [show (⟨#[120, 123]⟩ : ByteArray) = S8 [120, 123] from rfl, show (⟨#[44]⟩ : ByteArray) = S8 [44] from rfl, show (⟨#[125]⟩ : ByteArray) = S8 [125] from rfl, S8_add, S8_add, S8_add, S8_add]; rfl
  have cv : ∀ W, (convert 9 22 (.string ((⟨#[120, 123]⟩ : ByteArray) ++ S8 (d3 m) ++ ⟨#[44]⟩ ++ S8 (d3 n) ++ ⟨#[125]⟩))).run Tryd.prog W = .ok (.slice (some ⟨W.heap.size, 0, none⟩) (tmL m (some n)).length (cvCap W (tmL m (some n)))) (cvW W (tmL m (some n))) := fun W => by rw [hss]; exact run_cv _ W
  clear hss hM hE hRun hTop hm hn hb
  generalize tmL m (some n) = l at *
  go_enter Tryd.func5, Tryd.ntmps5
  go_wp2_with fail
  refine (HA.out).mono ?_; rintro e w1 ⟨rfl, hb1⟩; (try dsimp only)
  have B1 := Lib.hid hb1
  clear hb1 HA
  go_wp2_with fail
  refine (D1.out _).mono ?_; rintro e w2 ⟨rfl, hb2⟩; (try dsimp only)
  have B2 : Hid (Below w.heap.size w w2) := below_on B1.out hb2
  clear hb2 B1 D1
  go_wp2_with fail
  refine (D2.out _).mono ?_; rintro e w3 ⟨rfl, hb3⟩; (try dsimp only)
  have B3 : Hid (Below w.heap.size w w3) := below_on B2.out hb3
  clear hb3 B2 D2
  go_wp2_with fail
  refine (HPA.out w3 (HM0.out.on B3.out)).mono ?_; rintro e w4 ⟨cs, ev, rfl, ho, hb4⟩; (try dsimp only)
  have B4 : Hid (Below w.heap.size w w4) := below_on B3.out hb4
  clear hb4 B3 HPA
  obtain ⟨rfl, b, rfl, hfr⟩ := ho
  go_upto_region 8 with fail
  have r5 : Row (w4.alloc (.cells zeroPA 41)) w4.heap.size 41 zeroPA := Row.new w4 _ _
  have B5 : Hid (Below w.heap.size w (w4.alloc (.cells zeroPA 41))) := B4.out.alloc B4.out.size _
  have F5 : Hid (FRow (w4.alloc (.cells zeroPA 41)) b 1 5) := hfr.alloc _
  clear hfr r5
  generalize (w4.alloc (.cells zeroPA 41)) = w5 at *
  clear B4
  go_upto_region 10 with fail
  have F6 : FRow (w5.alloc (.cells #[.pointer none] 50)) b 1 5 := F5.out.alloc _
  have B6 : Below w5.heap.size w5 (w5.alloc (.cells #[.pointer none] 50)) := (Below.refl _ _).alloc (Nat.le_refl _) _
  have CC := Lib.hid (code_fault b 5 (by omega) (by omega) (w5.alloc (.cells #[.pointer none] 50)) (by rw [F6.cell]; rfl))
  have AS := Lib.hid (as_own b w5 (HE0.out.on B5.out))
  have hbl : b < w5.heap.size := F5.out.lt
  have HC1 : Hid (w5.cell? ⟨b, 0, none⟩ = some (.int .i64 1)) := F5.out.cell 0
  clear F6 F5 B6
  go_wp2_with fail
  refine (CC.out).mono ?_; rintro e w6 ⟨rfl, rfl⟩; (try dsimp only)
  go_wp2_with fail
  refine (AS.out).mono ?_; rintro e u ⟨rfl, hBu, k0⟩; (try dsimp only)
  have k1 : u.cell? ⟨b, 0, none⟩ = some (.int .i64 1) := (hBu.cell (p := ⟨b, 0, none⟩) hbl).trans HC1.out
  have B7 : Hid (Below w.heap.size w u) := below_on B5.out hBu
  have hbu : b < u.heap.size := Nat.lt_of_lt_of_le hbl hBu.size
  have hgu := hBu.size
  clear hBu B5 CC AS HC1
  go_wp2
  go_ret
  exact ⟨rfl, B7.out⟩
set_option maxRecDepth 100000 in
set_option maxHeartbeats 16000000 in
theorem times_c2 (f g m n : Nat) (hf : f < 65536) (hg : g < 65536) (hm : m = f % 1000) (hn : n = g % 1000) (h1 : m ≤ 255) (h2 : 255 < n) (w : World) (hM : HM w) (hE : HE w) :
    Calls Tryd.prog 5 #[.int .u16 (f : Int), .int .u16 (g : Int), .bool false] w fun e w' => e = .returned (.bool true) ∧ Below w.heap.size w w' := by
  have t1 : decide ((255 : Int) < (m : Int)) = false := decide_eq_false (by omega)
  have t1' : decide (255 < m) = false := decide_eq_false (by omega)
  have t2 : decide ((255 : Int) < (n : Int)) = true := decide_eq_true (by omega)
  have t2' : decide (255 < n) = true := decide_eq_true (by omega)
  have m9 : m < 1000 := by omega
  have n9 : n < 1000 := by omega
  have hb : boundsB (m : Int) (n : Int) = false := by unfold boundsB; rw [decide_eq_false (by omega : ¬ (n : Int) ≤ 255), Bool.and_false, decide_eq_false (by omega : ¬ (n : Int) = -1)]; simp
  have hRun := tm_bad m9 (some n) (by intro n1 h; injection h with h; omega) hb
  have hTop := @tm_top_bad m (some n)
  have HPA := Lib.hid (fun W hW => tim_cv (Nat.le_trans (tmL_len m (some n)) (by omega)) _ hRun _ hTop W hW)
  have HA := Lib.hid (awake4 w hM)
  have HM0 := Lib.hid hM
  have HE0 := Lib.hid hE
  have e1 : Int.tmod (f : Int) 1000 = (m : Int) := by rw [hm]; rfl
  have e2 : Int.tmod (g : Int) 1000 = (n : Int) := by rw [hn]; rfl
  have w1 : IntKind.i64.wrap (f : Int) = (f : Int) := by rw [IntKind.wrap_i64]; omega
  have w2 : IntKind.i64.wrap (g : Int) = (g : Int) := by rw [IntKind.wrap_i64]; omega
  have w3 : IntKind.i64.wrap (m : Int) = (m : Int) := by rw [IntKind.wrap_i64]; omega
  have w4 : IntKind.i64.wrap (n : Int) = (n : Int) := by rw [IntKind.wrap_i64]; omega
  have D1 := Lib.hid (dig_u m m9)
  have D2 := Lib.hid (dig_u n n9)
  have hss : (⟨#[120, 123]⟩ : ByteArray) ++ S8 (d3 m) ++ ⟨#[44]⟩ ++ S8 (d3 n) ++ ⟨#[125]⟩ = S8 (tmL m (some n)) := by
    rw [show (⟨#[120, 123]⟩ : ByteArray) = S8 [120, 123] from rfl, show (⟨#[44]⟩ : ByteArray) = S8 [44] from rfl, show (⟨#[125]⟩ : ByteArray) = S8 [125] from rfl, S8_add, S8_add, S8_add, S8_add]; rfl
  have cv : ∀ W, (convert 9 22 (.string ((⟨#[120, 123]⟩ : ByteArray) ++ S8 (d3 m) ++ ⟨#[44]⟩ ++ S8 (d3 n) ++ ⟨#[125]⟩))).run Tryd.prog W = .ok (.slice (some ⟨W.heap.size, 0, none⟩) (tmL m (some n)).length (cvCap W (tmL m (some n)))) (cvW W (tmL m (some n))) := fun W => by rw [hss]; exact run_cv _ W
  clear hss hM hE hRun hTop hm hn hb
  generalize tmL m (some n) = l at *
  go_enter Tryd.func5, Tryd.ntmps5
  go_wp2_with fail
  refine (HA.out).mono ?_; rintro e w1 ⟨rfl, hb1⟩; (try dsimp only)
  have B1 := Lib.hid hb1
  clear hb1 HA
  go_wp2_with fail
  refine (D1.out _).mono ?_; rintro e w2 ⟨rfl, hb2⟩; (try dsimp only)
  have B2 : Hid (Below w.heap.size w w2) := below_on B1.out hb2
  clear hb2 B1 D1
  go_wp2_with fail
  refine (D2.out _).mono ?_; rintro e w3 ⟨rfl, hb3⟩; (try dsimp only)
  have B3 : Hid (Below w.heap.size w w3) := below_on B2.out hb3
  clear hb3 B2 D2
  go_wp2_with fail
  refine (HPA.out w3 (HM0.out.on B3.out)).mono ?_; rintro e w4 ⟨cs, ev, rfl, ho, hb4⟩; (try dsimp only)
  have B4 : Hid (Below w.heap.size w w4) := below_on B3.out hb4
  clear hb4 B3 HPA
  obtain ⟨rfl, b, rfl, hfr⟩ := ho
  go_upto_region 8 with fail
  have r5 : Row (w4.alloc (.cells zeroPA 41)) w4.heap.size 41 zeroPA := Row.new w4 _ _
  have B5 : Hid (Below w.heap.size w (w4.alloc (.cells zeroPA 41))) := B4.out.alloc B4.out.size _
  have F5 : Hid (FRow (w4.alloc (.cells zeroPA 41)) b 1 5) := hfr.alloc _
  clear hfr r5
  generalize (w4.alloc (.cells zeroPA 41)) = w5 at *
  clear B4
  go_upto_region 10 with fail
  have F6 : FRow (w5.alloc (.cells #[.pointer none] 50)) b 1 5 := F5.out.alloc _
  have B6 : Below w5.heap.size w5 (w5.alloc (.cells #[.pointer none] 50)) := (Below.refl _ _).alloc (Nat.le_refl _) _
  have CC := Lib.hid (code_fault b 5 (by omega) (by omega) (w5.alloc (.cells #[.pointer none] 50)) (by rw [F6.cell]; rfl))
  have AS := Lib.hid (as_own b w5 (HE0.out.on B5.out))
  have hbl : b < w5.heap.size := F5.out.lt
  have HC1 : Hid (w5.cell? ⟨b, 0, none⟩ = some (.int .i64 1)) := F5.out.cell 0
  clear F6 F5 B6
  go_wp2_with fail
  refine (CC.out).mono ?_; rintro e w6 ⟨rfl, rfl⟩; (try dsimp only)
  go_wp2_with fail
  refine (AS.out).mono ?_; rintro e u ⟨rfl, hBu, k0⟩; (try dsimp only)
  have k1 : u.cell? ⟨b, 0, none⟩ = some (.int .i64 1) := (hBu.cell (p := ⟨b, 0, none⟩) hbl).trans HC1.out
  have B7 : Hid (Below w.heap.size w u) := below_on B5.out hBu
  have hbu : b < u.heap.size := Nat.lt_of_lt_of_le hbl hBu.size
  have hgu := hBu.size
  clear hBu B5 CC AS HC1
  go_wp2
  go_ret
  exact ⟨rfl, B7.out⟩
set_option maxRecDepth 100000 in
set_option maxHeartbeats 16000000 in
theorem times_c3 (f g m n : Nat) (hf : f < 65536) (hg : g < 65536) (hm : m = f % 1000) (hn : n = g % 1000) (h1 : m ≤ 255) (h2 : n ≤ 255) (h3 : n < m) (w : World) (hM : HM w) (hE : HE w) :
    Calls Tryd.prog 5 #[.int .u16 (f : Int), .int .u16 (g : Int), .bool false] w fun e w' => e = .returned (.bool true) ∧ Below w.heap.size w w' := by
  have t1 : decide ((255 : Int) < (m : Int)) = false := decide_eq_false (by omega)
  have t1' : decide (255 < m) = false := decide_eq_false (by omega)
  have t2 : decide ((255 : Int) < (n : Int)) = false := decide_eq_false (by omega)
  have t2' : decide (255 < n) = false := decide_eq_false (by omega)
  have t3 : decide ((n : Int) < (m : Int)) = true := decide_eq_true (by omega)
  have t3' : decide (n < m) = true := decide_eq_true (by omega)
  have m9 : m < 1000 := by omega
  have n9 : n < 1000 := by omega
  have hb : boundsB (m : Int) (n : Int) = false := by unfold boundsB; rw [decide_eq_false (by omega : ¬ (m : Int) ≤ (n : Int)), Bool.false_and, decide_eq_false (by omega : ¬ (n : Int) = -1)]; simp
  have hRun := tm_bad m9 (some n) (by intro n1 h; injection h with h; omega) hb
  have hTop := @tm_top_bad m (some n)
  have HPA := Lib.hid (fun W hW => tim_cv (Nat.le_trans (tmL_len m (some n)) (by omega)) _ hRun _ hTop W hW)
  have HA := Lib.hid (awake4 w hM)
  have HM0 := Lib.hid hM
  have HE0 := Lib.hid hE
  have e1 : Int.tmod (f : Int) 1000 = (m : Int) := by rw [hm]; rfl
  have e2 : Int.tmod (g : Int) 1000 = (n : Int) := by rw [hn]; rfl
  have w1 : IntKind.i64.wrap (f : Int) = (f : Int) := by rw [IntKind.wrap_i64]; omega
  have w2 : IntKind.i64.wrap (g : Int) = (g : Int) := by rw [IntKind.wrap_i64]; omega
  have w3 : IntKind.i64.wrap (m : Int) = (m : Int) := by rw [IntKind.wrap_i64]; omega
  have w4 : IntKind.i64.wrap (n : Int) = (n : Int) := by rw [IntKind.wrap_i64]; omega
  have D1 := Lib.hid (dig_u m m9)
  have D2 := Lib.hid (dig_u n n9)
  have hss : (⟨#[120, 123]⟩ : ByteArray) ++ S8 (d3 m) ++ ⟨#[44]⟩ ++ S8 (d3 n) ++ ⟨#[125]⟩ = S8 (tmL m (some n)) := by
    rw [show (⟨#[120, 123]⟩ : ByteArray) = S8 [120, 123] from rfl, show (⟨#[44]⟩ : ByteArray) = S8 [44] from rfl, show (⟨#[125]⟩ : ByteArray) = S8 [125] from rfl, S8_add, S8_add, S8_add, S8_add]; rfl
  have cv : ∀ W, (convert 9 22 (.string ((⟨#[120, 123]⟩ : ByteArray) ++ S8 (d3 m) ++ ⟨#[44]⟩ ++ S8 (d3 n) ++ ⟨#[125]⟩))).run Tryd.prog W = .ok (.slice (some ⟨W.heap.size, 0, none⟩) (tmL m (some n)).length (cvCap W (tmL m (some n)))) (cvW W (tmL m (some n))) := fun W => by rw [hss]; exact run_cv _ W
  clear hss hM hE hRun hTop hm hn hb
  generalize tmL m (some n) = l at *
  go_enter Tryd.func5, Tryd.ntmps5
  go_wp2_with fail
  refine (HA.out).mono ?_; rintro e w1 ⟨rfl, hb1⟩; (try dsimp only)
  have B1 := Lib.hid hb1
  clear hb1 HA
  go_wp2_with fail
  refine (D1.out _).mono ?_; rintro e w2 ⟨rfl, hb2⟩; (try dsimp only)
  have B2 : Hid (Below w.heap.size w w2) := below_on B1.out hb2
  clear hb2 B1 D1
  go_wp2_with fail
  refine (D2.out _).mono ?_; rintro e w3 ⟨rfl, hb3⟩; (try dsimp only)
  have B3 : Hid (Below w.heap.size w w3) := below_on B2.out hb3
  clear hb3 B2 D2
  go_wp2_with fail
  refine (HPA.out w3 (HM0.out.on B3.out)).mono ?_; rintro e w4 ⟨cs, ev, rfl, ho, hb4⟩; (try dsimp only)
  have B4 : Hid (Below w.heap.size w w4) := below_on B3.out hb4
  clear hb4 B3 HPA
  obtain ⟨rfl, b, rfl, hfr⟩ := ho
  go_upto_region 8 with fail
  have r5 : Row (w4.alloc (.cells zeroPA 41)) w4.heap.size 41 zeroPA := Row.new w4 _ _
  have B5 : Hid (Below w.heap.size w (w4.alloc (.cells zeroPA 41))) := B4.out.alloc B4.out.size _
  have F5 : Hid (FRow (w4.alloc (.cells zeroPA 41)) b 1 5) := hfr.alloc _
  clear hfr r5
  generalize (w4.alloc (.cells zeroPA 41)) = w5 at *
  clear B4
  go_upto_region 10 with fail
  have F6 : FRow (w5.alloc (.cells #[.pointer none] 50)) b 1 5 := F5.out.alloc _
  have B6 : Below w5.heap.size w5 (w5.alloc (.cells #[.pointer none] 50)) := (Below.refl _ _).alloc (Nat.le_refl _) _
  have CC := Lib.hid (code_fault b 5 (by omega) (by omega) (w5.alloc (.cells #[.pointer none] 50)) (by rw [F6.cell]; rfl))
  have AS := Lib.hid (as_own b w5 (HE0.out.on B5.out))
  have hbl : b < w5.heap.size := F5.out.lt
  have HC1 : Hid (w5.cell? ⟨b, 0, none⟩ = some (.int .i64 1)) := F5.out.cell 0
  clear F6 F5 B6
  go_wp2_with fail
  refine (CC.out).mono ?_; rintro e w6 ⟨rfl, rfl⟩; (try dsimp only)
  go_wp2_with fail
  refine (AS.out).mono ?_; rintro e u ⟨rfl, hBu, k0⟩; (try dsimp only)
  have k1 : u.cell? ⟨b, 0, none⟩ = some (.int .i64 1) := (hBu.cell (p := ⟨b, 0, none⟩) hbl).trans HC1.out
  have B7 : Hid (Below w.heap.size w u) := below_on B5.out hBu
  have hbu : b < u.heap.size := Nat.lt_of_lt_of_le hbl hBu.size
  have hgu := hBu.size
  clear hBu B5 CC AS HC1
  go_wp2
  go_ret
  exact ⟨rfl, B7.out⟩
theorem times_w {w : World} (hM : HM w) (hE : HE w) (f : Int) (hf : 0 ≤ f ∧ f ≤ 65535) (g : Int) (hg : 0 ≤ g ∧ g ≤ 65535) (b : Bool) :
    Calls Tryd.prog 5 #[.int .u16 f, .int .u16 g, .bool b] w fun e w' => e = .returned (.bool true) ∧ Below w.heap.size w w' := by
  obtain ⟨x, rfl⟩ := Int.eq_ofNat_of_zero_le hf.1
  obtain ⟨y, rfl⟩ := Int.eq_ofNat_of_zero_le hg.1
  have hx : x < 65536 := by have := hf.2; omega
  have hy : y < 65536 := by have := hg.2; omega
  cases b with
  | true =>
    by_cases h1 : x % 1000 ≤ 255
    · exact times_oo x y _ _ hx hy rfl rfl h1 w hM hE
    · exact times_ob x y _ _ hx hy rfl rfl (by omega) w hM hE
  | false =>
    by_cases h1 : x % 1000 ≤ 255
    · by_cases h2 : y % 1000 ≤ 255
      · by_cases h3 : x % 1000 ≤ y % 1000
        · exact times_co x y _ _ hx hy rfl rfl h1 h2 h3 w hM hE
        · exact times_c3 x y _ _ hx hy rfl rfl h1 h2 (by omega) w hM hE
      · exact times_c2 x y _ _ hx hy rfl rfl h1 (by omega) w hM hE
    · exact times_c1 x y _ _ hx hy rfl rfl (by omega) w hM hE
end Go.Proofs.YtfmekmbdienbjaaDoor
