/- The contracts of the reference's Of and Good. -/
import Derived.Test.YtfecnogmjfmghaaDoorRefB
namespace Go.Proofs.YtfecnogmjfmghaaDoor
set_option linter.unusedSimpArgs false
set_option linter.unusedVariables false
set_option linter.unnecessarySimpa false
open Go.RowKit

theorem bit_word {h j : Nat} (hh : h < 18446744073709551616) : wrap64 (bits .and .u64 ((h : Int) / 2 ^ j) 1) = ((h / 2 ^ j % 2 : Nat) : Int) := by
  have h1 : h / 2 ^ j ≤ h := Nat.div_le_self _ _
  have e : ((h : Int) / 2 ^ j) = ((h / 2 ^ j : Nat) : Int) := by rw [Int.natCast_ediv, Int.natCast_pow]; rfl
  rw [e, show (1 : Int) = ((1 : Nat) : Int) from rfl, u64_and_nat _ _ (by omega) (by omega), nat_mask1]
  unfold wrap64; omega
theorem dig_short {m k : Nat} (h : m < 10 ^ k) (hk : k ≤ 900) : (dig m).length ≤ 900 := Nat.le_trans (dig_len_le h) hk
theorem bit_of (h k : Nat) (hk : k < 64) : h / 2 ^ k % 2 ≤ 1 := by omega
theorem shift_bit (h k : Nat) : 2 * (h / 2 ^ (k + 1)) + h / 2 ^ k % 2 = h / 2 ^ k := by
  rw [Nat.pow_succ, ← Nat.div_div_eq_div_mul]; omega
theorem low_bit (h lo j : Nat) (hj : j + 1 ≤ 64) : 2 * (h * 2 ^ (64 - (j + 1)) + lo / 2 ^ (j + 1)) + lo / 2 ^ j % 2 = h * 2 ^ (64 - j) + lo / 2 ^ j := by
  have e : h * 2 ^ (64 - j) = h * 2 ^ (64 - (j + 1)) * 2 := by rw [show 64 - j = (64 - (j + 1)) + 1 from by omega, Nat.pow_succ, Nat.mul_assoc]
  have := shift_bit lo j
  generalize h * 2 ^ (64 - j) = p at *
  generalize h * 2 ^ (64 - (j + 1)) = q at *
  generalize lo / 2 ^ (j + 1) = r at *
  generalize lo / 2 ^ j = s at *
  omega
theorem low_small {h lo k : Nat} (hh : h < 18446744073709551616) (hlo : lo < 18446744073709551616) : h * 2 ^ (64 - k) + lo / 2 ^ k < 10 ^ 40 := by
  have h1 : 2 ^ (64 - k) ≤ 2 ^ 64 := Nat.pow_le_pow_right (by omega) (by omega)
  have h2 : h * 2 ^ (64 - k) ≤ 18446744073709551616 * 2 ^ 64 := Nat.mul_le_mul (by omega) h1
  have h3 := Nat.div_le_self lo (2 ^ k)
  omega
set_option maxRecDepth 100000 in
set_option maxHeartbeats 4000000 in
theorem of_dv (n : Bool) (h lo : Nat) (hh : h < 18446744073709551616) (hlo : lo < 18446744073709551616) (w : World) :
    Calls Tryd.prog 17 #[DV n h lo] w (RetNum n (h * 18446744073709551616 + lo) w) := by
  go_enter Tryd.func17, Tryd.ntmps17
  go_wp2
  go_loopw [3, 4] (fun d i wr => ∃ (k M : Nat) (A : Option Addr) (c : Nat), k ≤ 64 ∧ i = .int .i64 ((k : Int) - 1) ∧ Hid (M = h / 2 ^ k) ∧ d = .slice A (dig M).length c ∧ Ints wr A c (dig M) ∧
      Below w.heap.size w wr ∧ w.heap.size + 1 < wr.heap.size ∧
      wr.cell? ⟨w.heap.size, 0, none⟩ = some (.bool n) ∧ wr.cell? ⟨w.heap.size, 1, none⟩ = some (.int .u64 (h : Int)) ∧ wr.cell? ⟨w.heap.size, 2, none⟩ = some (.int .u64 (lo : Int)) ∧
      Lies wr (w.heap.size + 1) 33 #[.bool false, .slice none 0 0]) (fun _ i _ => (intOf i + 1).toNat)
  case atStart =>
    have e0 : h / 2 ^ 64 = 0 := Nat.div_eq_of_lt (by omega)
    have LF := (Lies.fresh (w.alloc (.cells #[.bool n, .int .u64 (h : Int), .int .u64 (lo : Int)] 26)) 33 #[.bool false, .slice none 0 0])
    rw [show (w.alloc (.cells #[.bool n, .int .u64 (h : Int), .int .u64 (lo : Int)] 26)).heap.size = w.heap.size + 1 from by simp] at LF
    refine ⟨64, 0, none, 0, Nat.le_refl _, rfl, e0.symm, by rw [dig_zero]; rfl, by rw [dig_zero]; exact Ints.nil _, ?_, by simp, ?_, ?_, ?_, LF⟩
    · repeat (first | (with_reducible exact Below.refl _ _) | (with_reducible refine Below.drew ?_) | (refine Below.setCell ?_ (by first | exact Nat.le_refl _ | (simp; done) | (simp; omega) | omega) _) | (refine Below.alloc ?_ (by first | exact Nat.le_refl _ | (simp; done) | (simp; omega) | omega) _) | (refine Below.trans ?_ (Below.mono (by assumption) (by first | exact Nat.le_refl _ | (simp; done) | (simp; omega) | omega))))
    · go_simp
    · go_simp
    · go_simp
  case round =>
    obtain ⟨k, M, A, c, hk, rfl, hM, rfl, hI, hB, hz, k0, k1, k2, hL⟩ := hrel
    cases k with
    | zero =>
      have HM : Hid (M = h) := by show _ = _; rw [hM.out, Nat.pow_zero, Nat.div_one]
      clear hM
      rw [show (((0 : Nat) : Int) - 1) = -1 from rfl]
      go_wp2
      go_loopw [3, 5] (fun d i wr => ∃ (k M : Nat) (A : Option Addr) (c : Nat), k ≤ 64 ∧ i = .int .i64 ((k : Int) - 1) ∧ Hid (M = h * 2 ^ (64 - k) + lo / 2 ^ k) ∧ d = .slice A (dig M).length c ∧ Ints wr A c (dig M) ∧
          Below w.heap.size w wr ∧ w.heap.size + 1 < wr.heap.size ∧
          wr.cell? ⟨w.heap.size, 0, none⟩ = some (.bool n) ∧ wr.cell? ⟨w.heap.size, 1, none⟩ = some (.int .u64 (h : Int)) ∧ wr.cell? ⟨w.heap.size, 2, none⟩ = some (.int .u64 (lo : Int)) ∧
          Lies wr (w.heap.size + 1) 33 #[.bool false, .slice none 0 0]) (fun _ i _ => (intOf i + 1).toNat)
      case atStart =>
        have e1 : h * 2 ^ (64 - 64) + lo / 2 ^ 64 = h := by rw [Nat.sub_self, Nat.pow_zero, Nat.mul_one, Nat.div_eq_of_lt (by omega), Nat.add_zero]
        exact ⟨64, M, A, c, Nat.le_refl _, rfl, HM.out.trans e1.symm, rfl, hI, hB, hz, k0, k1, k2, hL⟩
      case round =>
        clear hI hB hz k0 k1 k2 hL HM
        obtain ⟨k, M, A, c, hk, rfl, hM, rfl, hI, hB, hz, k0, k1, k2, hL⟩ := hrel
        cases k with
        | zero =>
          have HM : Hid (M = h * 18446744073709551616 + lo) := by show _ = _; rw [hM.out, Nat.pow_zero, Nat.div_one]
          have hs : M < 10 ^ 40 := by rw [HM.out]; omega
          have C := Lib.hid (fun W (hW : Ints W A c (dig M)) => cut_any hW (Nat.le_trans (dig_short hs (by omega)) (by omega)) (dig_lt _))
          rw [dval_dig] at C
          have HI := Lib.hid hI
          have HL := Lib.hid hL
          have hz' : w.heap.size < wr.heap.size := by omega
          obtain ⟨x0, x1, f0, f1⟩ := hL.cells2
          clear hI hs hM hL
          go_wp2
          refine wp_region_held_drew (S := fun w' => w'.cell? ⟨w.heap.size, 0, none⟩ = some (.bool n)) (by kernel_rfl) (by go_simp) (fun hHeld => ?_)
          refine wpAnyH_take (i := 0) (v := ?_) rfl (by kernel_rfl) (by kernel_rfl) (by kernel_rfl) (fun _ _ _ h => h) (Or.inl ⟨by rfl, ?_⟩) hHeld ?_
          rotate_left
          · (intro w0 hSw; (try dsimp only at hSw); (first | (go_simp; done) | (go_simp; with_reducible rfl)))
          (try simp only [List.getElem_toArray, List.getElem_cons_zero, List.getElem_cons_succ, Act.put, List.setIfInBounds_toArray, List.set_cons_zero, List.set_cons_succ])
          refine wpAnyH_take (i := 1) (v := ?_) rfl (by kernel_rfl) (by kernel_rfl) (by kernel_rfl) (fun _ _ _ h => h) (Or.inl ⟨by rfl, ?_⟩) hHeld ?_
          rotate_left
          · (intro w0 hSw; (try dsimp only at hSw); (first | (go_simp; done) | (go_simp; with_reducible rfl)))
          (try simp only [List.getElem_toArray, List.getElem_cons_zero, List.getElem_cons_succ, Act.put, List.setIfInBounds_toArray, List.set_cons_zero, List.set_cons_succ])
          refine wpAnyH_take (i := 2) (v := ?_) rfl (by kernel_rfl) (by kernel_rfl) (by kernel_rfl) (fun _ _ _ h => h) (Or.inl ⟨by rfl, ?_⟩) hHeld ?_
          rotate_left
          · (intro w0 hSw; (try dsimp only at hSw); (first | (go_simp; done) | (go_simp; with_reducible rfl)))
          (try simp only [List.getElem_toArray, List.getElem_cons_zero, List.getElem_cons_succ, Act.put, List.setIfInBounds_toArray, List.set_cons_zero, List.set_cons_succ])
          refine wpAnyH_ready (rs := [3]) (by kernel_rfl) (by simp) (AllReadyH.cons rfl (fun K hK => ?_) AllReadyH.nil)
          go_simp
          refine (C.out _ (HI.out.on (Below.refl _ _).drew)).mono ?_; rintro e w1 ⟨A1, c1, rfl, hI1, hb1⟩; obtain ⟨hc1, hf1⟩ := bcell hb1; (try simp only [World.size_drew, World.cell?_drew, World.frozen?_drew] at hc1 hf1); have hz1 := hb1.size; (try simp at hz1)
          refine hK.out _ _ (by go_simp) (fun hHeld2 => ?_)
          clear hK K hHeld; have hHeld := hHeld2; clear hHeld2
          (try simp only [List.getElem_toArray, List.getElem_cons_zero, List.getElem_cons_succ, Act.put, List.setIfInBounds_toArray, List.set_cons_zero, List.set_cons_succ])
          refine wpAnyH_take (i := 4) (v := ?_) rfl (by kernel_rfl) (by kernel_rfl) (by kernel_rfl) (fun _ _ _ h => h) (Or.inl ⟨by rfl, ?_⟩) hHeld ?_
          rotate_left
          · (intro w0 hSw; (try dsimp only at hSw); (first | (go_simp; done) | (go_simp; with_reducible rfl)))
          (try simp only [List.getElem_toArray, List.getElem_cons_zero, List.getElem_cons_succ, Act.put, List.setIfInBounds_toArray, List.set_cons_zero, List.set_cons_succ])
          refine wpAnyH_ready (rs := [5]) (by kernel_rfl) (by simp) (AllReadyH.cons rfl (fun K hK => ?_) AllReadyH.nil)
          go_simp
          refine hK.out _ _ (by go_simp) (fun hHeld2 => ?_)
          clear hK K hHeld; have hHeld := hHeld2; clear hHeld2
          (try simp only [List.getElem_toArray, List.getElem_cons_zero, List.getElem_cons_succ, Act.put, List.setIfInBounds_toArray, List.set_cons_zero, List.set_cons_succ])
          refine wpAnyH_done (by kernel_rfl) ?_ _
          clear hHeld
          go_wp2
          refine bodyPost_ret (v := .agg #[.bool n, .slice A1 (dig M).length c1]) (by simp [results, Tryd.results17, go_sem, *]) rfl ⟨_, rfl, ⟨A1, c1, by rw [HM.out], ?_⟩, ?_⟩
          · rw [← HM.out]
            have hL1 := (HL.out.drew).on hb1
            exact (hI1.far hL1 (by decide) 0 _).far (hL1.put 0 _) (by decide) 1 _
          · repeat (first | (with_reducible exact Below.refl _ _) | (with_reducible refine Below.drew ?_) | (refine Below.setCell ?_ (by first | exact Nat.le_refl _ | (simp; done) | (simp; omega) | omega) _) | (refine Below.alloc ?_ (by first | exact Nat.le_refl _ | (simp; done) | (simp; omega) | omega) _) | (refine Below.trans ?_ (Below.mono (by assumption) (by first | exact Nat.le_refl _ | (simp; done) | (simp; omega) | omega))))
        | succ j =>
          have g0 : (0 : Int) ≤ (j : Int) := by omega
          have g1 : (j : Int) < 64 := by omega
          have E := Lib.hid (bit_word (j := j) hlo)
          have hs : M < 10 ^ 40 := by rw [hM.out]; exact low_small hh hlo
          have hb : lo / 2 ^ j % 2 ≤ 1 := by omega
          have HN : Hid (2 * M + lo / 2 ^ j % 2 = h * 2 ^ (64 - j) + lo / 2 ^ j) := by show _ = _; rw [hM.out]; exact low_bit h lo j hk
          clear hM
          generalize lo / 2 ^ j % 2 = bt at *
          have C := Lib.hid (double_any hI (dig_short hs (by omega)) hb)
          clear hs
          go_wp2_with fail
          rw [E.out]
          refine C.out.mono ?_
          rintro e w1 ⟨A1, c1, rfl, hI1, hb1⟩
          go_wp2
          go_roundw
          case rel =>
            refine ⟨j, 2 * M + bt, A1, c1, by omega, by go_num, HN, rfl, hI1, below_on hB hb1, Nat.lt_of_lt_of_le hz hb1.size, (hb1.cell (p := ⟨w.heap.size, 0, none⟩) ?_).trans k0, (hb1.cell (p := ⟨w.heap.size, 1, none⟩) ?_).trans k1, (hb1.cell (p := ⟨w.heap.size, 2, none⟩) ?_).trans k2, hL.on hb1⟩
            all_goals (show w.heap.size < _; omega)
          case measure => simp [intOf]
    | succ j =>
      have g0 : (0 : Int) ≤ (j : Int) := by omega
      have g1 : (j : Int) < 64 := by omega
      have E := Lib.hid (bit_word (j := j) hh)
      have hs : M < 10 ^ 40 := by rw [hM.out]; have := Nat.div_le_self h (2 ^ (j + 1)); omega
      have hb : h / 2 ^ j % 2 ≤ 1 := by omega
      have HN : Hid (2 * M + h / 2 ^ j % 2 = h / 2 ^ j) := by show _ = _; rw [hM.out]; exact shift_bit h j
      clear hM
      generalize h / 2 ^ j % 2 = bt at *
      have C := Lib.hid (double_any hI (dig_short hs (by omega)) hb)
      clear hs
      go_wp2_with fail
      rw [E.out]
      refine C.out.mono ?_
      rintro e w1 ⟨A1, c1, rfl, hI1, hb1⟩
      go_wp2
      go_roundw
      case rel =>
        refine ⟨j, 2 * M + bt, A1, c1, by omega, by go_num, HN, rfl, hI1, below_on hB hb1, Nat.lt_of_lt_of_le hz hb1.size, (hb1.cell (p := ⟨w.heap.size, 0, none⟩) ?_).trans k0, (hb1.cell (p := ⟨w.heap.size, 1, none⟩) ?_).trans k1, (hb1.cell (p := ⟨w.heap.size, 2, none⟩) ?_).trans k2, hL.on hb1⟩
        all_goals (show w.heap.size < _; omega)
      case measure => simp [intOf]
theorem of_any (n : Bool) (m : Nat) (hm : m < 340282366920938463463374607431768211456) (w : World) :
    Calls Tryd.prog 17 #[MV n m] w (RetNum n m w) := by
  have k := of_dv n (hiN m) (loN m) (hiN_lt hm) (loN_lt m) w
  rw [hilo] at k
  exact k
end Go.Proofs.YtfecnogmjfmghaaDoor
