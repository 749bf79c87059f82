/- The contracts of dec.digit, dec.divide: what each returns; the world below the call's own blocks stays as it was. -/
import Derived.Test.YtfecnogmjfmghaaDoorDecB
import Derived.Test.YtfecnogmjfmghaaDoorDecD
import Derived.Test.YtfecnogmjfmghaaDoorDecG
import Derived.LoopN
import Derived.Deep.DeepCutAuto
namespace Go.Proofs.YtfecnogmjfmghaaDoor
set_option linter.unusedSimpArgs false
set_option linter.unusedVariables false
set_option linter.unnecessarySimpa false
open Go.RowKit

/-- One limb by a divisor of one limb. -/
theorem digit_lo (n dn : Bool) (r x d : Nat) (hr : r < d) (hd : d < 18446744073709551616) (hx : x < 18446744073709551616) (w : World) :
    Calls Tryd.prog 60 #[MV n r, .int .u64 (x : Int), MV dn d] w fun e w' => e = .returned (.tuple #[.int .u64 ((r * 18446744073709551616 + x) / d : Nat), MV false ((r * 18446744073709551616 + x) % d)]) ∧ Below w.heap.size w w' := by
  have e1 := hiN_small hd
  have e2 := loN_small hd
  have e3 := loN_small (Nat.lt_trans hr hd)
  have C1 := Lib.hid (div64_any r x d hr hd hx)
  have E1 := Lib.hid (hiN_small (Nat.lt_trans (Nat.mod_lt (r * 18446744073709551616 + x) (Nat.lt_of_le_of_lt (Nat.zero_le _) hr)) hd))
  have E2 := Lib.hid (loN_small (Nat.lt_trans (Nat.mod_lt (r * 18446744073709551616 + x) (Nat.lt_of_le_of_lt (Nat.zero_le _) hr)) hd))
  clear hr hd hx
  go_enter Tryd.func60, Tryd.ntmps60
  go_wp2_with (first | (go_at_call 51; refine (C1.out _).mono ?_; rintro ew1 w1 ⟨rfl, hbw1⟩; obtain ⟨hcw1, hfw1⟩ := bcell hbw1; (try simp only [World.size_drew, World.cell?_drew, World.frozen?_drew] at hcw1 hfw1); have hzw1 := hbw1.size; (try simp at hzw1); have : w.heap.size < w1.heap.size := (by omega); have : w.heap.size + 1 < w1.heap.size := (by omega); have : w.heap.size + 1 + 1 < w1.heap.size := (by omega)))
  refine bodyPost_ret (v := .tuple #[.int .u64 ((r * 18446744073709551616 + x) / d : Nat), .agg #[.bool false, .int .u64 0, .int .u64 ((r * 18446744073709551616 + x) % d : Nat)]]) (by simp [results, Tryd.results60, go_sem, *]) rfl ⟨by simp only [MV, E1.out, E2.out]; rfl, ?_⟩
  repeat (first | (with_reducible exact Below.refl _ _) | (with_reducible refine Below.drew ?_) | (refine Below.setCell ?_ (by first | exact Nat.le_refl _ | (simp; done) | (simp; omega) | omega) _) | (refine Below.alloc ?_ (by first | exact Nat.le_refl _ | (simp; done) | (simp; omega) | omega) _) | (refine Below.trans ?_ (Below.mono (by assumption) (by first | exact Nat.le_refl _ | (simp; done) | (simp; omega) | omega))))

/-- The world within digit's loop: the rest, the divisor and the result's cell are the call's own three blocks. -/
def DigW (w wr : World) (n : Bool) (r : Nat) (dn : Bool) (d : Nat) : Prop :=
  wr.cell? ⟨w.heap.size, 0, none⟩ = some (.bool n) ∧ wr.cell? ⟨w.heap.size, 1, none⟩ = some (.int .u64 (hiN r : Int)) ∧ wr.cell? ⟨w.heap.size, 2, none⟩ = some (.int .u64 (loN r : Int)) ∧
  wr.cell? ⟨w.heap.size + 1, 0, none⟩ = some (.bool dn) ∧ wr.cell? ⟨w.heap.size + 1, 1, none⟩ = some (.int .u64 (hiN d : Int)) ∧ wr.cell? ⟨w.heap.size + 1, 2, none⟩ = some (.int .u64 (loN d : Int)) ∧
  wr.cell? ⟨w.heap.size + 1 + 1, 0, none⟩ = some (.bool false) ∧ wr.cell? ⟨w.heap.size + 1 + 1, 1, none⟩ = some (.int .u64 0) ∧ wr.cell? ⟨w.heap.size + 1 + 1, 2, none⟩ = some (.int .u64 0) ∧
  wr.frozen? ⟨w.heap.size, 0, none⟩ = false ∧ wr.frozen? ⟨w.heap.size, 1, none⟩ = false ∧ wr.frozen? ⟨w.heap.size, 2, none⟩ = false ∧
  wr.frozen? ⟨w.heap.size + 1 + 1, 0, none⟩ = false ∧ wr.frozen? ⟨w.heap.size + 1 + 1, 1, none⟩ = false ∧ wr.frozen? ⟨w.heap.size + 1 + 1, 2, none⟩ = false ∧
  Below w.heap.size w wr ∧ w.heap.size + 1 + 1 + 1 ≤ wr.heap.size

set_option maxHeartbeats 1000000 in
theorem digit_hi (n dn : Bool) (r x d : Nat) (hr : r < d) (hd : 18446744073709551616 ≤ d) (hd2 : d < 170141183460469231731687303715884105728) (hx : x < 18446744073709551616) (w : World) :
    Calls Tryd.prog 60 #[MV n r, .int .u64 (x : Int), MV dn d] w fun e w' => e = .returned (.tuple #[.int .u64 ((r * 18446744073709551616 + x) / d : Nat), MV false ((r * 18446744073709551616 + x) % d)]) ∧ Below w.heap.size w w' := by
  have h1 : ((hiN d : Int) == 0) = false := by unfold hiN; simp; omega
  have H := Lib.hid (And.intro hr (And.intro hd (And.intro hd2 hx)))
  clear hr hd hd2 hx
  go_enter Tryd.func60, Tryd.ntmps60
  go_upto_region 6 with fail
  go_loopw [1, 10, 26] (fun t1 t10 t26 wr => ∃ (i r' q nx : Nat) (n' : Bool), t26 = .int .i64 (i : Int) ∧ t10 = .int .u64 (q : Int) ∧ t1 = .int .u64 (nx : Int) ∧ i ≤ 64 ∧ Hid (DInv r x d i r' q nx) ∧ Hid (0 < i → n' = false) ∧ DigW w wr n' r' dn d) (fun _ _ t26 _ => 64 - (intOf t26).toNat)
  case atStart =>
    refine ⟨0, r, 0, x, n, rfl, rfl, rfl, by omega, dinv_start H.out.1 H.out.2.2.2, fun h => absurd h (by omega), ?_⟩
    refine ⟨?_, ?_, ?_, ?_, ?_, ?_, ?_, ?_, ?_, ?_, ?_, ?_, ?_, ?_, ?_, ?_, ?_⟩
    all_goals (try (go_simp; done))
    all_goals (repeat (first | (with_reducible exact Below.refl _ _) | (with_reducible refine Below.drew ?_) | (refine Below.setCell ?_ (by first | exact Nat.le_refl _ | (simp; done) | (simp; omega) | omega) _) | (refine Below.alloc ?_ (by first | exact Nat.le_refl _ | (simp; done) | (simp; omega) | omega) _) | (refine Below.trans ?_ (Below.mono (by assumption) (by first | exact Nat.le_refl _ | (simp; done) | (simp; omega) | omega)))))
  case round =>
    obtain ⟨i, r', q, nx, n', rfl, rfl, rfl, hi, Hk, Hn, c0, c1, c2, d0, d1, d2, z0, z1, z2, f0, f1, f2, g0, g1, g2, hB, hz⟩ := hrel
    obtain ⟨_, _, _⟩ := zs3 hz
    by_cases hlt : i < 64
    · have E1 := Lib.hid (or_hi' (r := r') (Nat.lt_trans Hk.out.1 H.out.2.2.1) (dinv_nx Hk.out))
      have E2 := Lib.hid (or_lo (r := r') (dinv_nx Hk.out))
      have E3 := Lib.hid (w_dbl (dinv_q Hk.out hlt))
      have E4 := Lib.hid (w_shl1 nx)
      have E5 := Lib.hid (or_dbl (dinv_q Hk.out hlt))
      have E6 := Lib.hid (dinv_step Hk.out hlt H.out.2.2.2)
      have E7 := Lib.hid (Nat.lt_trans Hk.out.1 H.out.2.2.1)
      have hb2 : Hid (sh1 r' nx < 340282366920938463463374607431768211456) := by
        have := E7.out; have := dinv_nx Hk.out
        show sh1 r' nx < _; unfold sh1; omega
      go_wp2_with fail
      simp only [E1.out, E2.out, E3.out, E4.out]
      by_cases hs : sh1 r' nx < d
      · have C1 : Hid (∀ w, Calls Tryd.prog 32 #[MV false (sh1 r' nx), MV dn d] w fun e w' => e = .returned (.bool true) ∧ Below w.heap.size w w') := by
          have := below_m false dn (sh1 r' nx) d; rw [decide_eq_true hs] at this; exact this
        have S1 := Lib.hid (E6.out.1 hs)
        clear hs
        refine (C1.out _).mono ?_
        rintro e w1 ⟨rfl, hb1⟩
        obtain ⟨hc1, hf1⟩ := bcell hb1
        have hz1 := hb1.size
        simp only [World.size_setCell] at hz1 hc1 hf1
        have : w.heap.size < w1.heap.size := by omega
        have : w.heap.size + 1 < w1.heap.size := by omega
        have : w.heap.size + 1 + 1 < w1.heap.size := by omega
        go_wp2
        go_roundw
        case rel =>
          refine ⟨i + 1, sh1 r' nx, dbl q, shl1 nx, false, by go_num, rfl, rfl, by omega, S1, fun _ => rfl, ?_⟩
          refine ⟨?_, ?_, ?_, ?_, ?_, ?_, ?_, ?_, ?_, ?_, ?_, ?_, ?_, ?_, ?_, ?_, ?_⟩
          all_goals (try (go_simp; done))
          all_goals first | omega | (repeat (first | (with_reducible exact Below.refl _ _) | (with_reducible refine Below.drew ?_) | (refine Below.setCell ?_ (by first | exact Nat.le_refl _ | (simp; done) | (simp; omega) | omega) _) | (refine Below.alloc ?_ (by first | exact Nat.le_refl _ | (simp; done) | (simp; omega) | omega) _) | (refine Below.trans ?_ (Below.mono (by assumption) (by first | exact Nat.le_refl _ | (simp; done) | (simp; omega) | omega)))))
        case measure => simp [intOf]; omega
      · have C1 : Hid (∀ w, Calls Tryd.prog 32 #[MV false (sh1 r' nx), MV dn d] w fun e w' => e = .returned (.bool false) ∧ Below w.heap.size w w') := by
          have := below_m false dn (sh1 r' nx) d; rw [decide_eq_false hs] at this; exact this
        have C2 := Lib.hid (minus_m false dn (sh1 r' nx) d (Nat.le_of_not_lt hs) hb2.out)
        have S1 := Lib.hid (E6.out.2 hs)
        clear hs
        refine (C1.out _).mono ?_
        rintro e w1 ⟨rfl, hb1⟩
        obtain ⟨hc1, hf1⟩ := bcell hb1
        have hz1 := hb1.size
        simp only [World.size_setCell] at hz1 hc1 hf1
        have : w.heap.size < w1.heap.size := by omega
        have : w.heap.size + 1 < w1.heap.size := by omega
        have : w.heap.size + 1 + 1 < w1.heap.size := by omega
        go_wp2_with fail
        refine (C2.out _).mono ?_
        rintro e w2 ⟨rfl, hb2⟩
        obtain ⟨hc2, hf2⟩ := bcell hb2
        have hz2 := hb2.size
        have : w.heap.size < w2.heap.size := by omega
        have : w.heap.size + 1 < w2.heap.size := by omega
        have : w.heap.size + 1 + 1 < w2.heap.size := by omega
        have k0 : w2.cell? ⟨w.heap.size, 0, none⟩ = some (.bool false) := by go_simp
        have k1 : w2.cell? ⟨w.heap.size, 1, none⟩ = some (.int .u64 (hiN (sh1 r' nx) : Int)) := by go_simp
        have k2 : w2.cell? ⟨w.heap.size, 2, none⟩ = some (.int .u64 (loN (sh1 r' nx) : Int)) := by go_simp
        go_wp2
        simp only [E5.out]
        go_roundw
        case rel =>
          refine ⟨i + 1, sh1 r' nx - d, dbl1 q, shl1 nx, false, by go_num, rfl, rfl, by omega, S1, fun _ => rfl, ?_⟩
          refine ⟨?_, ?_, ?_, ?_, ?_, ?_, ?_, ?_, ?_, ?_, ?_, ?_, ?_, ?_, ?_, ?_, ?_⟩
          all_goals (try (go_simp; done))
          all_goals first | (exact (three_set _ _ _ k0 k1 k2).2.1) | (exact (three_set _ _ _ k0 k1 k2).2.2) | (simp only [World.size_setCell]; omega) | (repeat (first | (with_reducible exact Below.refl _ _) | (with_reducible refine Below.drew ?_) | (refine Below.setCell ?_ (by first | exact Nat.le_refl _ | (simp; done) | (simp; omega) | omega) _) | (refine Below.alloc ?_ (by first | exact Nat.le_refl _ | (simp; done) | (simp; omega) | omega) _) | (refine Below.trans ?_ (Below.mono (by assumption) (by first | exact Nat.le_refl _ | (simp; done) | (simp; omega) | omega)))))
        case measure => simp [intOf]; omega
    · obtain rfl : i = 64 := by omega
      have E1 := Lib.hid (dinv_end Hk.out)
      obtain rfl : n' = false := Hn.out (by omega)
      go_wp2
      go_region
      all_goals
        go_wp2
        refine bodyPost_ret (v := .tuple #[.int .u64 (q : Int), MV false r']) (by simp [results, Tryd.results60, go_sem, *]) rfl ⟨by rw [E1.out.1, E1.out.2], ?_⟩
        repeat (first | (with_reducible exact Below.refl _ _) | (with_reducible refine Below.drew ?_) | (refine Below.setCell ?_ (by first | exact Nat.le_refl _ | (simp; done) | (simp; omega) | omega) _) | (refine Below.alloc ?_ (by first | exact Nat.le_refl _ | (simp; done) | (simp; omega) | omega) _) | (refine Below.trans ?_ (Below.mono (by assumption) (by first | exact Nat.le_refl _ | (simp; done) | (simp; omega) | omega))))

def dgQ (r x d : Nat) : Nat := (r * 18446744073709551616 + x) / d
def dgR (r x d : Nat) : Nat := (r * 18446744073709551616 + x) % d
theorem digit_m (n dn : Bool) (r x d : Nat) (hr : r < d) (hd2 : d < 170141183460469231731687303715884105728) (hx : x < 18446744073709551616) (w : World) :
    Calls Tryd.prog 60 #[MV n r, .int .u64 (x : Int), MV dn d] w fun e w' => e = .returned (.tuple #[.int .u64 (dgQ r x d : Nat), MV false (dgR r x d)]) ∧ Below w.heap.size w w' := by
  by_cases h : d < 18446744073709551616
  · exact digit_lo n dn r x d hr h hx w
  · exact digit_hi n dn r x d hr (by omega) hd2 hx w
end Go.Proofs.YtfecnogmjfmghaaDoor
