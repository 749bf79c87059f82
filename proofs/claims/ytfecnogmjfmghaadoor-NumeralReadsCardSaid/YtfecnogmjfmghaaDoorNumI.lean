/- The contract of Looks. -/
import Derived.Test.YtfecnogmjfmghaaDoorNumE
namespace Go.Proofs.YtfecnogmjfmghaaDoor
set_option linter.unusedSimpArgs false
set_option linter.unusedVariables false
set_option linter.unnecessarySimpa false
open Go.RowKit

set_option maxRecDepth 100000 in
set_option maxHeartbeats 4000000 in
theorem looks_u {v : Value} {l : List UInt8} {w : World} (h : BS w v l) (hl : l.length ≤ 281474976710656) :
    Calls Tryd.prog 13 #[v] w fun e w' => e = .returned (.bool (looksB l)) ∧ Below w.heap.size w w' := by
  obtain ⟨p, c, rfl, hlc, hcm, hU⟩ := h
  have hsum := shp_sum l
  have C1 : Hid (∀ W, Below w.heap.size w W → Calls Tryd.prog 23 #[.slice p l.length c] W fun e w' => e = .returned (shpV (shp l)) ∧ Below W.heap.size W w') := fun W hW => shapeOf_u (hU.on hW) hlc hl
  have C2 : Hid (∀ W, Calls Tryd.prog 24 #[shpV (shp l), .int .i64 5] W fun e w' => e = .returned (.int .i64 ((numN l : Nat) : Int)) ∧ Below W.heap.size W w') := by
    intro W
    have h5 := begin_u (shp l) 5 (by omega) (by omega) W
    rw [Shp.pre5] at h5
    exact h5
  have HL : Hid (looksB l = (decide (numN l ≠ 0) && (l.drop (numN l)).all blkU)) := rfl
  have hN := numN_le l
  have BR : BS w (subV p c (numN l) l.length) (l.drop (numN l)) := by
    have := subV_bs hU hlc hcm (i := numN l) (j := l.length) hN (Nat.le_refl _)
    rwa [List.take_of_length_le (by rw [List.length_drop]; exact Nat.le_refl _)] at this
  have hS := run_sub_from p l.length c (numN l) hN
  obtain ⟨p', c', e', hrc, hrm, hR⟩ := BR
  rw [e'] at hS
  have HD : Hid (∀ k, k < (l.drop (numN l)).length → (l.drop (numN l)).drop k = (l.drop (numN l)).getD k 0 :: (l.drop (numN l)).drop (k + 1)) := fun k hk => drop_u8 _ hk
  clear e' hU hsum hN
  generalize looksB l = r at *
  generalize hr : l.drop (numN l) = rest at *
  have hrl : rest.length ≤ 281474976710656 := by rw [← hr, List.length_drop]; omega
  clear hr
  generalize numN l = N at *
  generalize shp l = t at *
  generalize l.length = n at *
  have HR := Lib.hid hR; clear hR
  by_cases h0 : N = 0
  · obtain rfl : r = false := by rw [HL.out, h0]; rfl
    have t0 : ((N : Int) == 0) = true := by rw [h0]; rfl
    clear h0 HL
    go_enter Tryd.func13, Tryd.ntmps13
    go_wp2_with fail; refine (C1.out _ (by repeat (first | (with_reducible exact Below.refl _ _) | (with_reducible refine Below.drew ?_) | (refine Below.setCell ?_ (by first | exact Nat.le_refl _ | (simp; done) | (simp; omega) | omega) _) | (refine Below.alloc ?_ (by first | exact Nat.le_refl _ | (simp; done) | (simp; omega) | omega) _) | (refine Below.trans ?_ (Below.mono (by assumption) (by first | exact Nat.le_refl _ | (simp; done) | (simp; omega) | omega)))))).mono ?_; rintro ew1 w1 ⟨rfl, hbw1⟩; obtain ⟨hcw1, hfw1⟩ := bcell hbw1; (try simp only [World.size_drew, World.cell?_drew, World.frozen?_drew] at hcw1 hfw1); have hzw1 := hbw1.size; (try simp at hzw1); (try dsimp only)
    go_wp2_with fail; refine (C2.out _).mono ?_; rintro ew2 w2 ⟨rfl, hbw2⟩; obtain ⟨hcw2, hfw2⟩ := bcell hbw2; (try simp only [World.size_drew, World.cell?_drew, World.frozen?_drew] at hcw2 hfw2); have hzw2 := hbw2.size; (try simp at hzw2); (try dsimp only)
    go_wp2
    go_ret
    refine ⟨rfl, ?_⟩
    repeat (first | (with_reducible exact Below.refl _ _) | (with_reducible refine Below.drew ?_) | (refine Below.setCell ?_ (by first | exact Nat.le_refl _ | (simp; done) | (simp; omega) | omega) _) | (refine Below.alloc ?_ (by first | exact Nat.le_refl _ | (simp; done) | (simp; omega) | omega) _) | (refine Below.trans ?_ (Below.mono (by assumption) (by first | exact Nat.le_refl _ | (simp; done) | (simp; omega) | omega))))
  · have HL' : Hid (r = rest.all blkU) := by show _ = _; rw [HL.out]; simp [h0]
    have t0 : ((N : Int) == 0) = false := by rw [beq_eq_false_iff_ne]; omega
    clear h0 HL
    go_enter Tryd.func13, Tryd.ntmps13
    go_wp2_with fail; refine (C1.out _ (by repeat (first | (with_reducible exact Below.refl _ _) | (with_reducible refine Below.drew ?_) | (refine Below.setCell ?_ (by first | exact Nat.le_refl _ | (simp; done) | (simp; omega) | omega) _) | (refine Below.alloc ?_ (by first | exact Nat.le_refl _ | (simp; done) | (simp; omega) | omega) _) | (refine Below.trans ?_ (Below.mono (by assumption) (by first | exact Nat.le_refl _ | (simp; done) | (simp; omega) | omega)))))).mono ?_; rintro ew1 w1 ⟨rfl, hbw1⟩; obtain ⟨hcw1, hfw1⟩ := bcell hbw1; (try simp only [World.size_drew, World.cell?_drew, World.frozen?_drew] at hcw1 hfw1); have hzw1 := hbw1.size; (try simp at hzw1); (try dsimp only)
    go_wp2_with fail; refine (C2.out _).mono ?_; rintro ew2 w2 ⟨rfl, hbw2⟩; obtain ⟨hcw2, hfw2⟩ := bcell hbw2; (try simp only [World.size_drew, World.cell?_drew, World.frozen?_drew] at hcw2 hfw2); have hzw2 := hbw2.size; (try simp at hzw2); (try dsimp only)
    have hB2 : Below w.heap.size w w2 := by repeat (first | (with_reducible exact Below.refl _ _) | (with_reducible refine Below.drew ?_) | (refine Below.setCell ?_ (by first | exact Nat.le_refl _ | (simp; done) | (simp; omega) | omega) _) | (refine Below.alloc ?_ (by first | exact Nat.le_refl _ | (simp; done) | (simp; omega) | omega) _) | (refine Below.trans ?_ (Below.mono (by assumption) (by first | exact Nat.le_refl _ | (simp; done) | (simp; omega) | omega))))
    clear hcw1 hfw1 hcw2 hfw2 hbw1 hbw2 hzw1 hzw2
    go_wp2
    go_loop [15] (fun i => ∃ k : Nat, k ≤ rest.length ∧ i = .int .i64 (k : Int) ∧ Hid (r = (rest.drop k).all blkU)) (fun i => rest.length - (intOf i).toNat)
    case atStart => exact ⟨0, by omega, rfl, HL'.out⟩
    case round =>
      obtain ⟨k, hk, rfl, hr⟩ := hrel
      by_cases hlt : k < rest.length
      · obtain ⟨b, off, rfl, hbb, hcs⟩ := HR.out (by rintro rfl; simp at hlt)
        have hcell : w2.cell? ⟨b, off + k, none⟩ = some (bv (rest.getD k 0)) := (hB2.cell (p := ⟨b, off + k, none⟩) hbb).trans (hcs k hlt)
        have hlt' : (k : Int) < (rest.length : Int) := by omega
        have hge : (0 : Int) ≤ (k : Int) := by omega
        have hd := HD.out k hlt
        rw [hd, List.all_cons] at hr
        have HC : Hid (∀ w, Calls Tryd.prog 31 #[bv (rest.getD k 0)] w fun e w' => e = .returned (.bool (blkU (rest.getD k 0))) ∧ w = w') := blank_u _
        clear hcs hd
        generalize rest.getD k 0 = x at *
        cases hbk : blkU x
        · rw [hbk] at hr HC
          obtain rfl : r = false := by rw [hr.out]; rfl
          clear hr hbk HL'
          go_wp2_with (go_at_call 31; refine (HC.out _).mono ?_; rintro e w' ⟨rfl, rfl⟩)
          go_ret
          exact ⟨rfl, hB2⟩
        · rw [hbk] at hr HC
          have hr' : Hid (r = (rest.drop (k + 1)).all blkU) := by show _ = _; rw [hr.out]; rfl
          clear hr hbk
          go_wp2_with (go_at_call 31; refine (HC.out _).mono ?_; rintro e w' ⟨rfl, rfl⟩)
          go_round
          case rel => exact ⟨k + 1, by omega, by go_num, hr'⟩
          case measure => simp [intOf]; omega
      · have hkl : k = rest.length := by omega
        obtain rfl : r = true := by rw [hr.out, hkl, List.drop_of_length_le (Nat.le_refl _)]; rfl
        subst hkl
        clear hr HL'
        go_wp2
        go_ret
        exact ⟨rfl, hB2⟩
end Go.Proofs.YtfecnogmjfmghaaDoor
