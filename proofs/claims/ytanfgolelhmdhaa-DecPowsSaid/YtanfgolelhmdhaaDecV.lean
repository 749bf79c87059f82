/- The contract of dec.Pow, the ways behind the loop. -/
import Derived.Test.YtanfgolelhmdhaaDecU
namespace Go.Proofs.Ytanfgolelhmdhaa
set_option linter.unusedSimpArgs false
set_option linter.unusedVariables false
set_option linter.unnecessarySimpa false
open Go.RowKit

/-- 1, divided by a power. -/
def powD (x : Int) (q : Nat) : Int × Nat := if (powN x q).2 = 0 then (if (powN x q).1 = 0 then (0, 3) else fitR (((1000000 : Int) * 1000000).tdiv (powN x q).1)) else (0, 2)
theorem powD_err {x : Int} {q : Nat} (h : powN x q = (0, 2)) : powD x q = (0, 2) := by unfold powD; rw [h]; rfl

set_option maxRecDepth 100000 in
set_option maxHeartbeats 4000000 in
theorem pow_go0 (x y : Int) (hx : x.natAbs < topN) (hy : y.natAbs < topN) (hw : y = truncZ y) (h0 : x = 0) (hb : whB false (y.natAbs / 1000000) = true) (h1 : y.natAbs / 1000000 ≤ 1000) (hn : negZ y = false) (w : World) :
    Calls Try.prog 30 #[ZV x, ZV y] w fun e w' => e = .returned (RV (powN x (y.natAbs / 1000000))) ∧ Below w.heap.size w w' := by
  have hz0 := eql_m0 (negZ x) false x.natAbs
  rw [eq0_z, decide_eq_true h0] at hz0
  have C4 := Lib.hid (fun n => size_m n y.natAbs)
  have c5 := whole_m false y.natAbs (by unfold goodB; simpa using hy)
  rw [whV_true hb, hb] at c5
  have hgt : decide ((1000 : Int) < ((y.natAbs / 1000000 : Nat) : Int)) = false := by simp; omega
  have hq : y.natAbs / 1000000 ≤ 1000 := h1
  generalize y.natAbs / 1000000 = q at *
  have C5 := Lib.hid c5
  have C6 : Hid (∀ w, Calls Try.prog 32 #[.int .i64 1] w fun e w' => e = .returned (ZV (powN x 0).1) ∧ Below w.heap.size w w') := fun w => int_z 1 (by unfold i64B; omega) w
  have Hn := Lib.hid hn
  have Hq := Lib.hid hq
  have C7 : Hid (∀ k w, Calls Try.prog 24 #[ZV (powN x k).1, ZV x] w fun e w' => e = .returned (RV (fitR (((powN x k).1 * x).tdiv 1000000))) ∧ Below w.heap.size w w') := fun k w => mul_z (powN x k).1 x (powN_top x k) hx w
  clear h0 hb h1 c5 hn hq
  have he := neq_mm (negZ y) (negZ (truncZ y)) y.natAbs (truncZ y).natAbs
  rw [eqM_z] at he
  have ht : decide (y = truncZ y) = true := by simpa using hw
  have C1 := Lib.hid (good_z' hx)
  have C2 := Lib.hid (good_z' hy)
  have C3 := Lib.hid (trunc_z y hy)
  have Hx := Lib.hid hx
  have Hy := Lib.hid hy
  have Hw := Lib.hid hw
  clear hx hy hw
  go_enter Try.func30, Try.ntmps30
  go_upto_region 1 with fail
  go_region_held3 (fun w' => w'.cell? ⟨w.heap.size, 0, none⟩ = some (.bool (negZ x)) ∧ w'.cell? ⟨w.heap.size, 1, none⟩ = some (.int .u64 (hiN x.natAbs : Int)) ∧ w'.cell? ⟨w.heap.size, 2, none⟩ = some (.int .u64 (loN x.natAbs : Int)) ∧
      w'.cell? ⟨w.heap.size + 1, 0, none⟩ = some (.bool (negZ y)) ∧ w'.cell? ⟨w.heap.size + 1, 1, none⟩ = some (.int .u64 (hiN y.natAbs : Int)) ∧ w'.cell? ⟨w.heap.size + 1, 2, none⟩ = some (.int .u64 (loN y.natAbs : Int))) ((refine ⟨?_, ?_, ?_, ?_, ?_, ?_⟩ <;> go_simp))
    (first
      | (go_at_call 15; with_reducible refine (C1.out _).mono ?_; rintro ew1 w1 ⟨rfl, hbw1⟩; obtain ⟨hcw1, hfw1⟩ := bcell hbw1; (try simp only [World.size_drew, World.cell?_drew, World.frozen?_drew] at hcw1 hfw1); have hzw1 := hbw1.size; (try simp at hzw1); obtain ⟨_, _, _⟩ := zs3 hzw1)
      | (go_at_call 15; with_reducible refine (C2.out _).mono ?_; rintro ew2 w2 ⟨rfl, hbw2⟩; obtain ⟨hcw2, hfw2⟩ := bcell hbw2; (try simp only [World.size_drew, World.cell?_drew, World.frozen?_drew] at hcw2 hfw2); have hzw2 := hbw2.size; (try simp at hzw2); have : w.heap.size < w2.heap.size := (by omega); have : w.heap.size + 1 < w2.heap.size := (by omega); have : w.heap.size + 1 + 1 < w2.heap.size := (by omega))
      | (go_at_call 34; refine (C3.out _).mono ?_; rintro ew3 w3 ⟨rfl, hbw3⟩; obtain ⟨hcw3, hfw3⟩ := bcell hbw3; (try simp only [World.size_drew, World.cell?_drew, World.frozen?_drew] at hcw3 hfw3); have hzw3 := hbw3.size; (try simp at hzw3); have : w.heap.size < w3.heap.size := (by omega); have : w.heap.size + 1 < w3.heap.size := (by omega); have : w.heap.size + 1 + 1 < w3.heap.size := (by omega); (try dsimp only)))
  have I : PowI w (negZ x) x.natAbs (negZ y) y.natAbs w3 := by
    refine ⟨?_, ?_, ?_, ?_, ?_, ?_, ?_, ?_, ?_, ?_, ?_, ?_, ?_, ?_⟩
    iterate 12 go_simp
    · repeat (first | (with_reducible exact Below.refl _ _) | (with_reducible refine Below.drew ?_) | (refine Below.setCell ?_ (by first | exact Nat.le_refl _ | (simp; done) | (simp; omega) | omega) _) | (refine Below.alloc ?_ (by first | exact Nat.le_refl _ | (simp; done) | (simp; omega) | omega) _) | (refine Below.trans ?_ (Below.mono (by assumption) (by first | exact Nat.le_refl _ | (simp; done) | (simp; omega) | omega))))
    · omega
  clear hbw1 hcw1 hfw1 hzw1 hbw2 hcw2 hfw2 hzw2 hbw3 hcw3 hfw3 hzw3 he
  obtain ⟨x0, x1, x2, y0, y1, y2, z0, z1, z2, f0, f1, f2, hB, hz⟩ := I
  have hn := Hn.out
  go_wp2_with fail; refine (C4.out _ _).mono ?_; rintro ew4 w4 ⟨rfl, hbw4⟩; obtain ⟨hcw4, hfw4⟩ := bcell hbw4; (try simp only [World.size_drew, World.cell?_drew, World.frozen?_drew] at hcw4 hfw4); have hzw4 := hbw4.size; (try simp at hzw4); have : w.heap.size < w4.heap.size := (by omega); have : w.heap.size + 1 < w4.heap.size := (by omega); have : w.heap.size + 1 + 1 < w4.heap.size := (by omega); (try dsimp only)
  clear hn
  go_wp2_with fail; refine (C5.out _).mono ?_; rintro ew5 w5 ⟨rfl, hbw5⟩; obtain ⟨hcw5, hfw5⟩ := bcell hbw5; (try simp only [World.size_drew, World.cell?_drew, World.frozen?_drew] at hcw5 hfw5); have hzw5 := hbw5.size; (try simp at hzw5); have : w.heap.size < w5.heap.size := (by omega); have : w.heap.size + 1 < w5.heap.size := (by omega); have : w.heap.size + 1 + 1 < w5.heap.size := (by omega); (try dsimp only)
  go_wp2_with fail; refine (C6.out _).mono ?_; rintro ew6 w6 ⟨rfl, hbw6⟩; obtain ⟨hcw6, hfw6⟩ := bcell hbw6; (try simp only [World.size_drew, World.cell?_drew, World.frozen?_drew] at hcw6 hfw6); have hzw6 := hbw6.size; (try simp at hzw6); have : w.heap.size < w6.heap.size := (by omega); have : w.heap.size + 1 < w6.heap.size := (by omega); have : w.heap.size + 1 + 1 < w6.heap.size := (by omega); (try dsimp only)
  have I : PowI w (negZ x) x.natAbs (negZ y) y.natAbs w6 := by
    refine ⟨?_, ?_, ?_, ?_, ?_, ?_, ?_, ?_, ?_, ?_, ?_, ?_, ?_, ?_⟩
    iterate 12 go_simp
    · repeat (first | (with_reducible exact Below.refl _ _) | (with_reducible refine Below.drew ?_) | (refine Below.setCell ?_ (by first | exact Nat.le_refl _ | (simp; done) | (simp; omega) | omega) _) | (refine Below.alloc ?_ (by first | exact Nat.le_refl _ | (simp; done) | (simp; omega) | omega) _) | (refine Below.trans ?_ (Below.mono (by assumption) (by first | exact Nat.le_refl _ | (simp; done) | (simp; omega) | omega))))
    · omega
  clear x0 x1 x2 y0 y1 y2 z0 z1 z2 f0 f1 f2 hB hz hbw4 hcw4 hfw4 hzw4 hbw5 hcw5 hfw5 hzw5 hbw6 hcw6 hfw6 hzw6 hz0 hgt
  have J := Lib.hid I
  obtain ⟨x0, x1, x2, y0, y1, y2, z0, z1, z2, f0, f1, f2, hB, hz⟩ := I
  obtain ⟨_, _, _⟩ := zs3 hz
  go_upto_region 10 with fail
  go_loopw [52] (fun t52 wr => PowL w x y q w6.heap.size t52 wr) (fun t52 _ => q - (intOf t52).toNat)
  case atStart =>
    refine ⟨0, Nat.zero_le _, rfl, rfl, ⟨?_, ?_, ?_, ?_, ?_, ?_, ?_, ?_, ?_, ?_, ?_, ?_, ?_, ?_⟩, ?_, ?_, ?_, ?_, ?_, ?_, ?_, ?_⟩
    iterate 12 go_simp
    · repeat (first | (with_reducible exact Below.refl _ _) | (with_reducible refine Below.drew ?_) | (refine Below.setCell ?_ (by first | exact Nat.le_refl _ | (simp; done) | (simp; omega) | omega) _) | (refine Below.alloc ?_ (by first | exact Nat.le_refl _ | (simp; done) | (simp; omega) | omega) _) | (refine Below.trans ?_ (Below.mono (by assumption) (by first | exact Nat.le_refl _ | (simp; done) | (simp; omega) | omega))))
    · simp; omega
    iterate 6 go_simp
    · simp
    · omega
  case round =>
    obtain ⟨k, hk, rfl, hk0, ⟨x0, x1, x2, y0, y1, y2, z0, z1, z2, f0, f1, f2, hB, hz⟩, p0, p1, p2, g0, g1, g2, hP, hP3⟩ := hrel
    have Hk := Lib.hid hk0
    clear hk0
    have hq' : q ≤ 1000 := Hq.out
    obtain ⟨_, _, _⟩ := zs3 hz
    by_cases hlt : k < q
    · by_cases hf : (((powN x k).1 * x).tdiv 1000000).natAbs < topN
      · have C8 : Hid (∀ w, Calls Try.prog 24 #[ZV (powN x k).1, ZV x] w fun e w' => e = .returned (.tuple #[ZV (powN x (k + 1)).1, .nilIface]) ∧ Below w.heap.size w w') := by
          intro w
          refine (C7.out k w).mono ?_
          rintro e w' ⟨rfl, hb⟩
          rw [powN_succ Hk.out, fitR_0 hf]
          exact ⟨rfl, hb⟩
        have Hf := Lib.hid hf
        clear hf
        go_wp2_with fail; refine (C8.out _).mono ?_; rintro ew7 w7 ⟨rfl, hbw7⟩; obtain ⟨hcw7, hfw7⟩ := bcell hbw7; (try simp only [World.size_drew, World.cell?_drew, World.frozen?_drew] at hcw7 hfw7); have hzw7 := hbw7.size; (try simp at hzw7); have : w.heap.size < w7.heap.size := (by omega); have : w.heap.size + 1 < w7.heap.size := (by omega); have : w.heap.size + 1 + 1 < w7.heap.size := (by omega); (try dsimp only)
        have : w6.heap.size < w7.heap.size := by omega
        go_wp2
        go_roundw
        case rel =>
          refine ⟨k + 1, by omega, by go_num, ?_, ⟨?_, ?_, ?_, ?_, ?_, ?_, ?_, ?_, ?_, ?_, ?_, ?_, ?_, ?_⟩, ?_, ?_, ?_, ?_, ?_, ?_, ?_, ?_⟩
          · rw [powN_succ Hk.out, fitR_0 Hf.out]
          iterate 9 (focus ((repeat (first | ((with_reducible refine cell_other ?_ ?_); (focus (first | (simp; done) | (simp; omega)))) | ((with_reducible refine cell_lt ?_ ?_); (focus (first | (simp; done) | (simp; omega)))) | (with_reducible refine cell_same ?_) | ((with_reducible refine ex_other ?_ ?_); (focus (first | (simp; done) | (simp; omega)))) | ((with_reducible refine ex_lt ?_ ?_); (focus (first | (simp; done) | (simp; omega)))))); (first | (go_simp; done) | (go_simp; refine ⟨_, rfl⟩))))
          iterate 3 go_simp
          · repeat (first | (with_reducible exact Below.refl _ _) | (with_reducible refine Below.drew ?_) | (refine Below.setCell ?_ (by first | exact Nat.le_refl _ | (simp; done) | (simp; omega) | omega) _) | (refine Below.alloc ?_ (by first | exact Nat.le_refl _ | (simp; done) | (simp; omega) | omega) _) | (refine Below.trans ?_ (Below.mono (by assumption) (by first | exact Nat.le_refl _ | (simp; done) | (simp; omega) | omega))))
          · simp; omega
          iterate 3 (focus ((repeat (first | ((with_reducible refine cell_other ?_ ?_); (focus (first | (simp; done) | (simp; omega)))) | ((with_reducible refine cell_lt ?_ ?_); (focus (first | (simp; done) | (simp; omega)))) | (with_reducible refine cell_same ?_) | ((with_reducible refine ex_other ?_ ?_); (focus (first | (simp; done) | (simp; omega)))) | ((with_reducible refine ex_lt ?_ ?_); (focus (first | (simp; done) | (simp; omega)))))); (first | (go_simp; done) | (go_simp; refine ⟨_, rfl⟩))))
          iterate 3 go_simp
          · simp; omega
          · omega
        case measure => simp [intOf]; omega
      · have C8 : Hid (∀ w, Calls Try.prog 24 #[ZV (powN x k).1, ZV x] w fun e w' => e = .returned (.tuple #[.agg #[.bool false, .int .u64 0, .int .u64 0], .iface 51 (.int .i64 2)]) ∧ Below w.heap.size w w') := by
          intro w
          refine (C7.out k w).mono ?_
          rintro e w' ⟨rfl, hb⟩
          rw [fitR_2 hf]
          exact ⟨rfl, hb⟩
        have R : Hid (powN x q = (0, 2)) := powN_two (by rw [powN_succ Hk.out, fitR_2 hf]) (show k + 1 ≤ q by omega)
        clear hf
        go_wp2_with fail; refine (C8.out _).mono ?_; rintro ew7 w7 ⟨rfl, hbw7⟩; obtain ⟨hcw7, hfw7⟩ := bcell hbw7; (try simp only [World.size_drew, World.cell?_drew, World.frozen?_drew] at hcw7 hfw7); have hzw7 := hbw7.size; (try simp at hzw7); have : w.heap.size < w7.heap.size := (by omega); have : w.heap.size + 1 < w7.heap.size := (by omega); have : w.heap.size + 1 + 1 < w7.heap.size := (by omega); (try dsimp only)
        have : w6.heap.size < w7.heap.size := by omega
        go_wp2
        refine bodyPost_ret (v := .tuple #[.agg #[.bool false, .int .u64 0, .int .u64 0], .iface 51 (.int .i64 2)]) (by simp [results, Try.results30, go_sem, *]) rfl ⟨by rw [R.out]; rfl, ?_⟩
        repeat (first | (with_reducible exact Below.refl _ _) | (with_reducible refine Below.drew ?_) | (refine Below.setCell ?_ (by first | exact Nat.le_refl _ | (simp; done) | (simp; omega) | omega) _) | (refine Below.alloc ?_ (by first | exact Nat.le_refl _ | (simp; done) | (simp; omega) | omega) _) | (refine Below.trans ?_ (Below.mono (by assumption) (by first | exact Nat.le_refl _ | (simp; done) | (simp; omega) | omega))))
    · obtain rfl : k = q := by omega
      have hn := Hn.out
      go_wp2
      refine bodyPost_ret (v := .tuple #[ZV (powN x k).1, .nilIface]) (by simp [results, Try.results30, go_sem, *]) rfl ⟨?_, ?_⟩
      · show _ = Ending.returned (.tuple #[ZV (powN x k).1, errV (powN x k).2])
        rw [Hk.out]; rfl
      · repeat (first | (with_reducible exact Below.refl _ _) | (with_reducible refine Below.drew ?_) | (refine Below.setCell ?_ (by first | exact Nat.le_refl _ | (simp; done) | (simp; omega) | omega) _) | (refine Below.alloc ?_ (by first | exact Nat.le_refl _ | (simp; done) | (simp; omega) | omega) _) | (refine Below.trans ?_ (Below.mono (by assumption) (by first | exact Nat.le_refl _ | (simp; done) | (simp; omega) | omega))))
set_option maxRecDepth 100000 in
set_option maxHeartbeats 4000000 in
theorem pow_neg (x y : Int) (hx : x.natAbs < topN) (hy : y.natAbs < topN) (hw : y = truncZ y) (h0 : x ≠ 0) (hb : whB false (y.natAbs / 1000000) = true) (h1 : y.natAbs / 1000000 ≤ 1000) (hn : negZ y = true) (w : World) :
    Calls Try.prog 30 #[ZV x, ZV y] w fun e w' => e = .returned (RV (powD x (y.natAbs / 1000000))) ∧ Below w.heap.size w w' := by
  have hz0 := eql_m0 (negZ x) false x.natAbs
  rw [eq0_z, decide_eq_false h0] at hz0
  have C4 := Lib.hid (fun n => size_m n y.natAbs)
  have c5 := whole_m false y.natAbs (by unfold goodB; simpa using hy)
  rw [whV_true hb, hb] at c5
  have hgt : decide ((1000 : Int) < ((y.natAbs / 1000000 : Nat) : Int)) = false := by simp; omega
  have hq : y.natAbs / 1000000 ≤ 1000 := h1
  generalize y.natAbs / 1000000 = q at *
  have C5 := Lib.hid c5
  have C6 : Hid (∀ w, Calls Try.prog 32 #[.int .i64 1] w fun e w' => e = .returned (ZV (powN x 0).1) ∧ Below w.heap.size w w') := fun w => int_z 1 (by unfold i64B; omega) w
  have Hn := Lib.hid hn
  have Hq := Lib.hid hq
  have C7 : Hid (∀ k w, Calls Try.prog 24 #[ZV (powN x k).1, ZV x] w fun e w' => e = .returned (RV (fitR (((powN x k).1 * x).tdiv 1000000))) ∧ Below w.heap.size w w') := fun k w => mul_z (powN x k).1 x (powN_top x k) hx w
  clear h0 hb h1 c5 hn hq
  have he := neq_mm (negZ y) (negZ (truncZ y)) y.natAbs (truncZ y).natAbs
  rw [eqM_z] at he
  have ht : decide (y = truncZ y) = true := by simpa using hw
  have C1 := Lib.hid (good_z' hx)
  have C2 := Lib.hid (good_z' hy)
  have C3 := Lib.hid (trunc_z y hy)
  have Hx := Lib.hid hx
  have Hy := Lib.hid hy
  have Hw := Lib.hid hw
  clear hx hy hw
  go_enter Try.func30, Try.ntmps30
  go_upto_region 1 with fail
  go_region_held3 (fun w' => w'.cell? ⟨w.heap.size, 0, none⟩ = some (.bool (negZ x)) ∧ w'.cell? ⟨w.heap.size, 1, none⟩ = some (.int .u64 (hiN x.natAbs : Int)) ∧ w'.cell? ⟨w.heap.size, 2, none⟩ = some (.int .u64 (loN x.natAbs : Int)) ∧
      w'.cell? ⟨w.heap.size + 1, 0, none⟩ = some (.bool (negZ y)) ∧ w'.cell? ⟨w.heap.size + 1, 1, none⟩ = some (.int .u64 (hiN y.natAbs : Int)) ∧ w'.cell? ⟨w.heap.size + 1, 2, none⟩ = some (.int .u64 (loN y.natAbs : Int))) ((refine ⟨?_, ?_, ?_, ?_, ?_, ?_⟩ <;> go_simp))
    (first
      | (go_at_call 15; with_reducible refine (C1.out _).mono ?_; rintro ew1 w1 ⟨rfl, hbw1⟩; obtain ⟨hcw1, hfw1⟩ := bcell hbw1; (try simp only [World.size_drew, World.cell?_drew, World.frozen?_drew] at hcw1 hfw1); have hzw1 := hbw1.size; (try simp at hzw1); obtain ⟨_, _, _⟩ := zs3 hzw1)
      | (go_at_call 15; with_reducible refine (C2.out _).mono ?_; rintro ew2 w2 ⟨rfl, hbw2⟩; obtain ⟨hcw2, hfw2⟩ := bcell hbw2; (try simp only [World.size_drew, World.cell?_drew, World.frozen?_drew] at hcw2 hfw2); have hzw2 := hbw2.size; (try simp at hzw2); have : w.heap.size < w2.heap.size := (by omega); have : w.heap.size + 1 < w2.heap.size := (by omega); have : w.heap.size + 1 + 1 < w2.heap.size := (by omega))
      | (go_at_call 34; refine (C3.out _).mono ?_; rintro ew3 w3 ⟨rfl, hbw3⟩; obtain ⟨hcw3, hfw3⟩ := bcell hbw3; (try simp only [World.size_drew, World.cell?_drew, World.frozen?_drew] at hcw3 hfw3); have hzw3 := hbw3.size; (try simp at hzw3); have : w.heap.size < w3.heap.size := (by omega); have : w.heap.size + 1 < w3.heap.size := (by omega); have : w.heap.size + 1 + 1 < w3.heap.size := (by omega); (try dsimp only)))
  have I : PowI w (negZ x) x.natAbs (negZ y) y.natAbs w3 := by
    refine ⟨?_, ?_, ?_, ?_, ?_, ?_, ?_, ?_, ?_, ?_, ?_, ?_, ?_, ?_⟩
    iterate 12 go_simp
    · repeat (first | (with_reducible exact Below.refl _ _) | (with_reducible refine Below.drew ?_) | (refine Below.setCell ?_ (by first | exact Nat.le_refl _ | (simp; done) | (simp; omega) | omega) _) | (refine Below.alloc ?_ (by first | exact Nat.le_refl _ | (simp; done) | (simp; omega) | omega) _) | (refine Below.trans ?_ (Below.mono (by assumption) (by first | exact Nat.le_refl _ | (simp; done) | (simp; omega) | omega))))
    · omega
  clear hbw1 hcw1 hfw1 hzw1 hbw2 hcw2 hfw2 hzw2 hbw3 hcw3 hfw3 hzw3 he
  obtain ⟨x0, x1, x2, y0, y1, y2, z0, z1, z2, f0, f1, f2, hB, hz⟩ := I
  go_wp2_with fail; refine (C4.out _ _).mono ?_; rintro ew4 w4 ⟨rfl, hbw4⟩; obtain ⟨hcw4, hfw4⟩ := bcell hbw4; (try simp only [World.size_drew, World.cell?_drew, World.frozen?_drew] at hcw4 hfw4); have hzw4 := hbw4.size; (try simp at hzw4); have : w.heap.size < w4.heap.size := (by omega); have : w.heap.size + 1 < w4.heap.size := (by omega); have : w.heap.size + 1 + 1 < w4.heap.size := (by omega); (try dsimp only)
  go_wp2_with fail; refine (C5.out _).mono ?_; rintro ew5 w5 ⟨rfl, hbw5⟩; obtain ⟨hcw5, hfw5⟩ := bcell hbw5; (try simp only [World.size_drew, World.cell?_drew, World.frozen?_drew] at hcw5 hfw5); have hzw5 := hbw5.size; (try simp at hzw5); have : w.heap.size < w5.heap.size := (by omega); have : w.heap.size + 1 < w5.heap.size := (by omega); have : w.heap.size + 1 + 1 < w5.heap.size := (by omega); (try dsimp only)
  go_wp2_with fail; refine (C6.out _).mono ?_; rintro ew6 w6 ⟨rfl, hbw6⟩; obtain ⟨hcw6, hfw6⟩ := bcell hbw6; (try simp only [World.size_drew, World.cell?_drew, World.frozen?_drew] at hcw6 hfw6); have hzw6 := hbw6.size; (try simp at hzw6); have : w.heap.size < w6.heap.size := (by omega); have : w.heap.size + 1 < w6.heap.size := (by omega); have : w.heap.size + 1 + 1 < w6.heap.size := (by omega); (try dsimp only)
  have I : PowI w (negZ x) x.natAbs (negZ y) y.natAbs w6 := by
    refine ⟨?_, ?_, ?_, ?_, ?_, ?_, ?_, ?_, ?_, ?_, ?_, ?_, ?_, ?_⟩
    iterate 12 go_simp
    · repeat (first | (with_reducible exact Below.refl _ _) | (with_reducible refine Below.drew ?_) | (refine Below.setCell ?_ (by first | exact Nat.le_refl _ | (simp; done) | (simp; omega) | omega) _) | (refine Below.alloc ?_ (by first | exact Nat.le_refl _ | (simp; done) | (simp; omega) | omega) _) | (refine Below.trans ?_ (Below.mono (by assumption) (by first | exact Nat.le_refl _ | (simp; done) | (simp; omega) | omega))))
    · omega
  clear x0 x1 x2 y0 y1 y2 z0 z1 z2 f0 f1 f2 hB hz hbw4 hcw4 hfw4 hzw4 hbw5 hcw5 hfw5 hzw5 hbw6 hcw6 hfw6 hzw6 hz0 hgt
  have J := Lib.hid I
  obtain ⟨x0, x1, x2, y0, y1, y2, z0, z1, z2, f0, f1, f2, hB, hz⟩ := I
  obtain ⟨_, _, _⟩ := zs3 hz
  go_upto_region 10 with fail
  go_loopw [52] (fun t52 wr => PowL w x y q w6.heap.size t52 wr) (fun t52 _ => q - (intOf t52).toNat)
  case atStart =>
    refine ⟨0, Nat.zero_le _, rfl, rfl, ⟨?_, ?_, ?_, ?_, ?_, ?_, ?_, ?_, ?_, ?_, ?_, ?_, ?_, ?_⟩, ?_, ?_, ?_, ?_, ?_, ?_, ?_, ?_⟩
    iterate 12 go_simp
    · repeat (first | (with_reducible exact Below.refl _ _) | (with_reducible refine Below.drew ?_) | (refine Below.setCell ?_ (by first | exact Nat.le_refl _ | (simp; done) | (simp; omega) | omega) _) | (refine Below.alloc ?_ (by first | exact Nat.le_refl _ | (simp; done) | (simp; omega) | omega) _) | (refine Below.trans ?_ (Below.mono (by assumption) (by first | exact Nat.le_refl _ | (simp; done) | (simp; omega) | omega))))
    · simp; omega
    iterate 6 go_simp
    · simp
    · omega
  case round =>
    obtain ⟨k, hk, rfl, hk0, ⟨x0, x1, x2, y0, y1, y2, z0, z1, z2, f0, f1, f2, hB, hz⟩, p0, p1, p2, g0, g1, g2, hP, hP3⟩ := hrel
    have Hk := Lib.hid hk0
    clear hk0
    have hq' : q ≤ 1000 := Hq.out
    obtain ⟨_, _, _⟩ := zs3 hz
    by_cases hlt : k < q
    · by_cases hf : (((powN x k).1 * x).tdiv 1000000).natAbs < topN
      · have C8 : Hid (∀ w, Calls Try.prog 24 #[ZV (powN x k).1, ZV x] w fun e w' => e = .returned (.tuple #[ZV (powN x (k + 1)).1, .nilIface]) ∧ Below w.heap.size w w') := by
          intro w
          refine (C7.out k w).mono ?_
          rintro e w' ⟨rfl, hb⟩
          rw [powN_succ Hk.out, fitR_0 hf]
          exact ⟨rfl, hb⟩
        have Hf := Lib.hid hf
        clear hf
        go_wp2_with fail; refine (C8.out _).mono ?_; rintro ew7 w7 ⟨rfl, hbw7⟩; obtain ⟨hcw7, hfw7⟩ := bcell hbw7; (try simp only [World.size_drew, World.cell?_drew, World.frozen?_drew] at hcw7 hfw7); have hzw7 := hbw7.size; (try simp at hzw7); have : w.heap.size < w7.heap.size := (by omega); have : w.heap.size + 1 < w7.heap.size := (by omega); have : w.heap.size + 1 + 1 < w7.heap.size := (by omega); (try dsimp only)
        have : w6.heap.size < w7.heap.size := by omega
        go_wp2
        go_roundw
        case rel =>
          refine ⟨k + 1, by omega, by go_num, ?_, ⟨?_, ?_, ?_, ?_, ?_, ?_, ?_, ?_, ?_, ?_, ?_, ?_, ?_, ?_⟩, ?_, ?_, ?_, ?_, ?_, ?_, ?_, ?_⟩
          · rw [powN_succ Hk.out, fitR_0 Hf.out]
          iterate 9 (focus ((repeat (first | ((with_reducible refine cell_other ?_ ?_); (focus (first | (simp; done) | (simp; omega)))) | ((with_reducible refine cell_lt ?_ ?_); (focus (first | (simp; done) | (simp; omega)))) | (with_reducible refine cell_same ?_) | ((with_reducible refine ex_other ?_ ?_); (focus (first | (simp; done) | (simp; omega)))) | ((with_reducible refine ex_lt ?_ ?_); (focus (first | (simp; done) | (simp; omega)))))); (first | (go_simp; done) | (go_simp; refine ⟨_, rfl⟩))))
          iterate 3 go_simp
          · repeat (first | (with_reducible exact Below.refl _ _) | (with_reducible refine Below.drew ?_) | (refine Below.setCell ?_ (by first | exact Nat.le_refl _ | (simp; done) | (simp; omega) | omega) _) | (refine Below.alloc ?_ (by first | exact Nat.le_refl _ | (simp; done) | (simp; omega) | omega) _) | (refine Below.trans ?_ (Below.mono (by assumption) (by first | exact Nat.le_refl _ | (simp; done) | (simp; omega) | omega))))
          · simp; omega
          iterate 3 (focus ((repeat (first | ((with_reducible refine cell_other ?_ ?_); (focus (first | (simp; done) | (simp; omega)))) | ((with_reducible refine cell_lt ?_ ?_); (focus (first | (simp; done) | (simp; omega)))) | (with_reducible refine cell_same ?_) | ((with_reducible refine ex_other ?_ ?_); (focus (first | (simp; done) | (simp; omega)))) | ((with_reducible refine ex_lt ?_ ?_); (focus (first | (simp; done) | (simp; omega)))))); (first | (go_simp; done) | (go_simp; refine ⟨_, rfl⟩))))
          iterate 3 go_simp
          · simp; omega
          · omega
        case measure => simp [intOf]; omega
      · have C8 : Hid (∀ w, Calls Try.prog 24 #[ZV (powN x k).1, ZV x] w fun e w' => e = .returned (.tuple #[.agg #[.bool false, .int .u64 0, .int .u64 0], .iface 51 (.int .i64 2)]) ∧ Below w.heap.size w w') := by
          intro w
          refine (C7.out k w).mono ?_
          rintro e w' ⟨rfl, hb⟩
          rw [fitR_2 hf]
          exact ⟨rfl, hb⟩
        have R : Hid (powD x q = (0, 2)) := powD_err (powN_two (by rw [powN_succ Hk.out, fitR_2 hf]) (show k + 1 ≤ q by omega))
        clear hf
        go_wp2_with fail; refine (C8.out _).mono ?_; rintro ew7 w7 ⟨rfl, hbw7⟩; obtain ⟨hcw7, hfw7⟩ := bcell hbw7; (try simp only [World.size_drew, World.cell?_drew, World.frozen?_drew] at hcw7 hfw7); have hzw7 := hbw7.size; (try simp at hzw7); have : w.heap.size < w7.heap.size := (by omega); have : w.heap.size + 1 < w7.heap.size := (by omega); have : w.heap.size + 1 + 1 < w7.heap.size := (by omega); (try dsimp only)
        have : w6.heap.size < w7.heap.size := by omega
        go_wp2
        refine bodyPost_ret (v := .tuple #[.agg #[.bool false, .int .u64 0, .int .u64 0], .iface 51 (.int .i64 2)]) (by simp [results, Try.results30, go_sem, *]) rfl ⟨by rw [R.out]; rfl, ?_⟩
        repeat (first | (with_reducible exact Below.refl _ _) | (with_reducible refine Below.drew ?_) | (refine Below.setCell ?_ (by first | exact Nat.le_refl _ | (simp; done) | (simp; omega) | omega) _) | (refine Below.alloc ?_ (by first | exact Nat.le_refl _ | (simp; done) | (simp; omega) | omega) _) | (refine Below.trans ?_ (Below.mono (by assumption) (by first | exact Nat.le_refl _ | (simp; done) | (simp; omega) | omega))))
    · obtain rfl : k = q := by omega
      have C9 : Hid (∀ w, Calls Try.prog 32 #[.int .i64 1] w fun e w' => e = .returned (ZV 1000000) ∧ Below w.heap.size w w') := fun w => int_z 1 (by unfold i64B; omega) w
      have C10 : Hid (∀ w, Calls Try.prog 25 #[ZV 1000000, ZV (powN x k).1] w fun e w' => e = .returned (RV (powD x k)) ∧ Below w.heap.size w w') := by
        intro w
        unfold powD
        rw [if_pos Hk.out]
        by_cases hp : (powN x k).1 = 0
        · rw [if_pos hp, hp]
          exact div_0 1000000 (by rw [topN_eq]; decide) w
        · rw [if_neg hp]
          exact div_z 1000000 (powN x k).1 (by rw [topN_eq]; decide) (powN_top x k) hp w
      have hn := Hn.out
      go_upto_region 17 with fail
      clear hn
      refine wp_region_held_drew (S := fun w' => w'.cell? ⟨w6.heap.size, 0, none⟩ = some (.bool (negZ (powN x k).1)) ∧ w'.cell? ⟨w6.heap.size, 1, none⟩ = some (.int .u64 (hiN (powN x k).1.natAbs : Int)) ∧ w'.cell? ⟨w6.heap.size, 2, none⟩ = some (.int .u64 (loN (powN x k).1.natAbs : Int)))
        (by kernel_rfl) (by refine ⟨?_, ?_, ?_⟩ <;> go_simp) (fun hHeld => ?_)
      refine wpAnyH_take (i := 1) (v := ?_) rfl (by kernel_rfl) (by kernel_rfl) (by kernel_rfl) (fun _ _ _ h => h) (Or.inl ⟨by rfl, ?_⟩) hHeld ?_
      rotate_left
      · (intro w0 hSw; (try dsimp only at hSw); (first | (go_simp; done) | (go_simp; with_reducible rfl)))
      (try simp only [List.getElem_toArray, List.getElem_cons_zero, List.getElem_cons_succ, Act.put, List.setIfInBounds_toArray, List.set_cons_zero, List.set_cons_succ])
      refine wpAnyH_ready (rs := [0]) (by kernel_rfl) (by simp) (AllReadyH.cons rfl (fun K hK => ?_) AllReadyH.nil)
      go_simp
      refine (C9.out _).mono ?_; rintro ew8 w8 ⟨rfl, hbw8⟩; obtain ⟨hcw8, hfw8⟩ := bcell hbw8; (try simp only [World.size_drew, World.cell?_drew, World.frozen?_drew] at hcw8 hfw8); have hzw8 := hbw8.size; (try simp at hzw8); have : w.heap.size < w8.heap.size := (by omega); have : w.heap.size + 1 < w8.heap.size := (by omega); have : w.heap.size + 1 + 1 < w8.heap.size := (by omega); (try dsimp only); have : w6.heap.size < w8.heap.size := (by omega)
      refine hK.out _ _ (by refine ⟨?_, ?_, ?_⟩ <;> go_simp) (fun hHeld2 => ?_)
      clear hK K hHeld; have hHeld := hHeld2; clear hHeld2
      (try simp only [List.getElem_toArray, List.getElem_cons_zero, List.getElem_cons_succ, Act.put, List.setIfInBounds_toArray, List.set_cons_zero, List.set_cons_succ])
      refine wpAnyH_ready (rs := [2]) (by kernel_rfl) (by simp) (AllReadyH.cons rfl (fun K hK => ?_) AllReadyH.nil)
      go_simp
      refine (C10.out _).mono ?_; rintro ew9 w9 ⟨rfl, hbw9⟩; obtain ⟨hcw9, hfw9⟩ := bcell hbw9; (try simp only [World.size_drew, World.cell?_drew, World.frozen?_drew] at hcw9 hfw9); have hzw9 := hbw9.size; (try simp at hzw9); have : w.heap.size < w9.heap.size := (by omega); have : w.heap.size + 1 < w9.heap.size := (by omega); have : w.heap.size + 1 + 1 < w9.heap.size := (by omega); (try dsimp only); have : w6.heap.size < w9.heap.size := (by omega)
      refine hK.out _ _ (by refine ⟨?_, ?_, ?_⟩ <;> go_simp) (fun hHeld2 => ?_)
      clear hK K hHeld; have hHeld := hHeld2; clear hHeld2
      (try simp only [List.getElem_toArray, List.getElem_cons_zero, List.getElem_cons_succ, Act.put, List.setIfInBounds_toArray, List.set_cons_zero, List.set_cons_succ])
      refine wpAnyH_take (i := 3) (v := ?_) rfl (by kernel_rfl) (by kernel_rfl) (by kernel_rfl) (fun _ _ _ h => h) (Or.inl ⟨by rfl, ?_⟩) hHeld ?_
      rotate_left
      · (intro w0 hSw; (try dsimp only at hSw); (first | (go_simp; done) | (go_simp; with_reducible rfl)))
      (try simp only [List.getElem_toArray, List.getElem_cons_zero, List.getElem_cons_succ, Act.put, List.setIfInBounds_toArray, List.set_cons_zero, List.set_cons_succ])
      refine wpAnyH_take (i := 4) (v := ?_) rfl (by kernel_rfl) (by kernel_rfl) (by kernel_rfl) (fun _ _ _ h => h) (Or.inl ⟨by rfl, ?_⟩) hHeld ?_
      rotate_left
      · (intro w0 hSw; (try dsimp only at hSw); (first | (go_simp; done) | (go_simp; with_reducible rfl)))
      (try simp only [List.getElem_toArray, List.getElem_cons_zero, List.getElem_cons_succ, Act.put, List.setIfInBounds_toArray, List.set_cons_zero, List.set_cons_succ])
      refine wpAnyH_ready (rs := [5]) (by kernel_rfl) (by simp) (AllReadyH.cons rfl (fun K hK => ?_) AllReadyH.nil)
      go_simp
      refine hK.out _ _ (by refine ⟨?_, ?_, ?_⟩ <;> go_simp) (fun hHeld2 => ?_)
      clear hK K hHeld; have hHeld := hHeld2; clear hHeld2
      (try simp only [List.getElem_toArray, List.getElem_cons_zero, List.getElem_cons_succ, Act.put, List.setIfInBounds_toArray, List.set_cons_zero, List.set_cons_succ])
      refine wpAnyH_take (i := 6) (v := ?_) rfl (by kernel_rfl) (by kernel_rfl) (by kernel_rfl) (fun _ _ _ h => h) (Or.inl ⟨by rfl, ?_⟩) hHeld ?_
      rotate_left
      · (intro w0 hSw; (try dsimp only at hSw); (first | (go_simp; done) | (go_simp; with_reducible rfl)))
      (try simp only [List.getElem_toArray, List.getElem_cons_zero, List.getElem_cons_succ, Act.put, List.setIfInBounds_toArray, List.set_cons_zero, List.set_cons_succ])
      refine wpAnyH_done (by kernel_rfl) ?_ _
      clear hHeld
      go_wp2
      refine bodyPost_ret (v := RV (powD x k)) (by simp [results, Try.results30, go_sem, *]) rfl ⟨rfl, ?_⟩
      repeat (first | (with_reducible exact Below.refl _ _) | (with_reducible refine Below.drew ?_) | (refine Below.setCell ?_ (by first | exact Nat.le_refl _ | (simp; done) | (simp; omega) | omega) _) | (refine Below.alloc ?_ (by first | exact Nat.le_refl _ | (simp; done) | (simp; omega) | omega) _) | (refine Below.trans ?_ (Below.mono (by assumption) (by first | exact Nat.le_refl _ | (simp; done) | (simp; omega) | omega))))
end Go.Proofs.Ytanfgolelhmdhaa
