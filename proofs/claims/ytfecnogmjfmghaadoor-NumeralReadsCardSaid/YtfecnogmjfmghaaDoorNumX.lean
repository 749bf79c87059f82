/- The contract of the document's own Prefix: the parts. -/
import Derived.Test.YtfecnogmjfmghaaDoorNumV
import Derived.Test.YtfecnogmjfmghaaDoorNumLooks
import Derived.Test.YtfecnogmjfmghaaDoorRefA
import Derived.Test.YtfecnogmjfmghaaDoorRefD
import Derived.Deep.DeepCutAuto
import Derived.Deep.CutBlock
namespace Go.Proofs.YtfecnogmjfmghaaDoor
set_option linter.unusedSimpArgs false
set_option linter.unusedVariables false
set_option linter.unnecessarySimpa false
open Go.RowKit

theorem digit2_u (c : UInt8) (w : World) : Calls Tryd.prog 29 #[bv c] w fun e w' => e = .returned (.bool (dgtU c)) ∧ w = w' := by
  obtain ⟨b, hb⟩ : ∃ b, b = dgtU c := ⟨_, rfl⟩
  rw [← hb]
  unfold dgtU at hb
  have HB := Lib.hid hb; clear hb
  have hn := c.toNat_lt
  unfold bv
  generalize c.toNat = n at *
  by_cases h2 : 48 ≤ n
  · have t2 : decide ((48 : Int) ≤ (n : Int)) = true := by simp; omega
    by_cases h3 : n ≤ 57
    · obtain rfl : b = true := by rw [HB.out]; simp [h2, h3]
      have t3 : decide ((n : Int) ≤ 57) = true := by simp; omega
      go_enter Tryd.func29, Tryd.ntmps29
      go_wp2
      go_ret
      exact ⟨rfl, rfl⟩
    · obtain rfl : b = false := by rw [HB.out]; simp [h3]
      have t3 : decide ((n : Int) ≤ 57) = false := by simp; omega
      go_enter Tryd.func29, Tryd.ntmps29
      go_wp2
      go_ret
      exact ⟨rfl, rfl⟩
  · obtain rfl : b = false := by rw [HB.out]; simp [h2]
    have t2 : decide ((48 : Int) ≤ (n : Int)) = false := by simp; omega
    go_enter Tryd.func29, Tryd.ntmps29
    go_wp2
    go_ret
    exact ⟨rfl, rfl⟩
theorem s8_one (l : List UInt8) (i : Nat) (hi : i < l.length) (x y : Int) (hx : x = (i : Int)) (hy : y = (i : Int) + 1) (w : World) : (Instr.slice 9 (.string (S8 l)) (some (.int .i64 x)) (some (.int .i64 y)) none).run Tryd.prog w = .ok (.string (S8 [l.getD i 0])) w := by
  subst hx hy
  rw [run_slice_string w _ _ _ _ _ _ Tryd.underlying9 (by omega) (by omega) (by rw [S8_size]; omega), S8_extract, Int.toNat_natCast, show ((i : Int) + 1).toNat - i = 1 by omega, drop_u8 l hi]
  rfl

/-- What the document's Prefix answers: a number, how many bytes, an error's number. -/
def RGot (z : Int) (N E : Nat) (w : World) (e : Ending) (w' : World) : Prop :=
  ∃ A c, e = .returned (.agg #[.bool (negZ z), .slice A (dig z.natAbs).length c, .int .i64 (N : Int), .int .i64 (E : Int)]) ∧ Ints w' A c (dig z.natAbs) ∧ Below w.heap.size w w'
theorem lsf_get (l : List UInt8) {p j : Nat} (h : p + 1 + j = l.length) : (lsf l).getD j 0 = (l.getD p 0).toNat - 48 := by
  unfold lsf
  rw [List.getD_eq_getElem?_getD, List.getElem?_reverse (by rw [List.length_map]; omega), List.length_map, show l.length - 1 - j = p by omega, List.getElem?_map, List.getD_eq_getElem?_getD, List.getElem?_eq_getElem (by omega : p < l.length)]
  rfl
theorem lsf_next (l : List UInt8) {p j : Nat} (h : p + 1 + j = l.length) : (lsf l).take (j + 1) = (lsf l).take j ++ [(l.getD p 0).toNat - 48] := by
  rw [take_succ_getD (lsf l) (by rw [lsf_len]; omega), lsf_get l h]
theorem lsf_six (F : List UInt8) {p j : Nat} (h : p + 1 + j = 6) : (lsf (six F)).take (j + 1) = (lsf (six F)).take j ++ [if p < F.length then (F.getD p 0).toNat - 48 else 0] := by
  rw [lsf_next (six F) (by rw [six_len]; exact h)]
  congr 2
  unfold six
  rw [List.getD_eq_getElem?_getD, List.getElem?_take_of_lt (by omega)]
  split
  · rename_i hp; rw [List.getElem?_append_left hp, List.getD_eq_getElem?_getD]
  · rename_i hp; rw [List.getElem?_append_right (by omega), List.getElem?_replicate, if_pos (by omega)]; rfl

theorem Ints.take {w : World} {A : Option Addr} {c : Nat} {l : List Nat} (h : Ints w A c l) (k : Nat) : Ints w A c (l.take k) := by
  refine ⟨by rw [List.length_take]; have := h.1; omega, h.2.1, fun hn => ?_⟩
  obtain ⟨b, off, cur, e, hb, hc⟩ := h.2.2 (by rintro rfl; simp at hn)
  refine ⟨b, off, cur, e, hb, fun j hj => ?_⟩
  rw [List.length_take] at hj
  rw [take_getD l (by omega)]
  exact hc j (by omega)
theorem Ints.row4 {w : World} {A : Option Addr} {c : Nat} {l : List Nat} (h : Ints w A c l) {b : Nat} {T : TypeId} {cs : List Value} (hr : Row w b T cs.toArray) (hT : T ≠ 3) (v0 v1 v2 v3 : Value) :
    Ints ((((w.setCell ⟨b, 0, none⟩ v0).setCell ⟨b, 1, none⟩ v1).setCell ⟨b, 2, none⟩ v2).setCell ⟨b, 3, none⟩ v3) A c l :=
  (((h.far hr hT 0 v0).far (hr.set 0 v0) hT 1 v1).far ((hr.set 0 v0).set 1 v1) hT 2 v2).far (((hr.set 0 v0).set 1 v1).set 2 v2) hT 3 v3
theorem below4 {B : Nat} {a w : World} (h : Below B a w) {b : Nat} (hb : B ≤ b) (v0 v1 v2 v3 : Value) :
    Below B a ((((w.setCell ⟨b, 0, none⟩ v0).setCell ⟨b, 1, none⟩ v1).setCell ⟨b, 2, none⟩ v2).setCell ⟨b, 3, none⟩ v3) :=
  (((h.setCell (p := ⟨b, 0, none⟩) hb v0).setCell (p := ⟨b, 1, none⟩) hb v1).setCell (p := ⟨b, 2, none⟩) hb v2).setCell (p := ⟨b, 3, none⟩) hb v3
theorem got_fin (neg : Bool) {m k : Nat} (hk : k = (dig m).length) (hT : m < topN) :
    negZ (fitZ (if neg then -(m : Int) else (m : Int))) = (neg && decide (0 < k)) ∧ (fitZ (if neg then -(m : Int) else (m : Int))).natAbs = m ∧ fitC m = 0 := by
  have h0 := len0 m
  rw [← hk] at h0
  have e : fitZ (if neg then -(m : Int) else (m : Int)) = (if neg then -(m : Int) else (m : Int)) := by
    unfold fitZ; rw [if_pos]; cases neg <;> simp <;> exact hT
  rw [e]
  refine ⟨?_, by cases neg <;> simp, by unfold fitC; rw [if_pos hT]⟩
  unfold negZ
  by_cases hm : m = 0
  · have hk0 : k = 0 := by rw [decide_eq_true hm, beq_iff_eq] at h0; omega
    subst hm; subst hk0
    cases neg <;> simp
  · have hk0 : 0 < k := by rw [decide_eq_false hm, beq_eq_false_iff_ne] at h0; omega
    rw [decide_eq_true hk0]
    cases neg <;> simp <;> omega
theorem got_over (neg : Bool) {m : Nat} (hT : ¬ m < topN) : fitZ (if neg then -(m : Int) else (m : Int)) = 0 ∧ fitC m = 2 := by
  refine ⟨?_, by unfold fitC; rw [if_neg hT]⟩
  unfold fitZ; rw [if_neg]; cases neg <;> simp <;> omega

theorem over36 {m k : Nat} (h : k = (dig m).length) (hT : m < topN) : decide ((36 : Int) < (k : Int)) = false := by
  have := len36 m
  rw [decide_eq_decide] at this
  have := this.2 hT
  exact decide_eq_false (by omega)
theorem over36' {m k : Nat} (h : k = (dig m).length) (hT : ¬ m < topN) : decide ((36 : Int) < (k : Int)) = true := by
  have := len36 m
  rw [decide_eq_decide] at this
  have : ¬ (dig m).length ≤ 36 := fun h => hT (this.1 h)
  exact decide_eq_true (by omega)

set_option maxRecDepth 100000 in
set_option maxHeartbeats 16000000 in
theorem rpre_core {l W F : List UInt8} {nb ns nw np : Nat} {neg pt : Bool} (h : Places l W F nb ns nw np neg pt) (hl : l.length ≤ 1000) (z : Int) (N E : Nat)
    (hz0 : W.length + F.length = 0 → z = 0 ∧ N = 0 ∧ E = 0) (hz1 : W.length + F.length ≠ 0 → z = fitZ (if neg then -(magOf W F : Int) else (magOf W F : Int)) ∧ N = np + F.length ∧ E = fitC (magOf W F)) (w : World) :
    Calls Tryd.prog 11 #[.string (S8 l)] w (RGot z N E w) := by
  have H := Lib.hid h
  have hle : nw ≤ l.length := by
    have := h.le
    rcases h.p with ⟨_, h2, _⟩ | ⟨_, h2, _⟩ <;> omega
  have HLW := Lib.hid h.lw
  have hbs := h.bs
  have hnb : nb ≤ l.length := by have := h.lw; omega
  have hln := s8_len l
  go_enter Tryd.func11, Tryd.ntmps11
  go_upto_block 0 with fail
  generalize hw1 : w.alloc (.cells #[.bool false, .slice none 0 0, .int .i64 0, .int .i64 0] 35) = w1 at *
  have HW1 := Lib.hid hw1
  clear hw1
  go_cut [3] (fun i w' => i = .int .i64 (nb : Int) ∧ w' = w1)
  case first =>
    go_upto_region 2 with fail
    go_loop [3] (fun i => ∃ k : Nat, k ≤ nb ∧ i = .int .i64 (k : Int)) (fun i => l.length - (intOf i).toNat)
    case atStart => exact ⟨0, by omega, rfl⟩
    case round =>
      obtain ⟨k, hk, rfl⟩ := hrel
      by_cases hkl : k < l.length
      · have hkl' : (k : Int) < (l.length : Int) := by omega
        have hge : (0 : Int) ≤ (k : Int) := by omega
        have hat := s8_at l k hkl (k : Int) rfl
        have HC : Hid (∀ w, Calls Tryd.prog 20 #[bv (l.getD k 0)] w fun e w' => e = .returned (.bool (blkU (l.getD k 0))) ∧ w = w') := blank2_u _
        by_cases hlt : k < nb
        · rw [H.out.b k hlt] at HC
          generalize l.getD k 0 = x at *
          generalize S8 l = sl at *
          go_wp2_with (go_at_call 20; refine (HC.out _).mono ?_; rintro e w' ⟨rfl, rfl⟩)
          go_round
          case rel => exact ⟨k + 1, by omega, by go_num⟩
          case measure => simp [intOf]; omega
        · obtain rfl : k = nb := by omega
          rw [H.out.b' hkl] at HC
          generalize l.getD k 0 = x at *
          generalize S8 l = sl at *
          go_wp2_with (go_at_call 20; refine (HC.out _).mono ?_; rintro e w' ⟨rfl, rfl⟩)
          go_meet
          case rel => exact ⟨rfl, rfl⟩
      · obtain rfl : k = nb := by omega
        have t0 : decide (k < l.length) = false := decide_eq_false hkl
        generalize S8 l = sl at *
        go_wp2_with fail
        go_meet
        case rel => exact ⟨rfl, rfl⟩
  case rest =>
  obtain ⟨rfl, hwc⟩ := hcut
  have hwc' := hwc.symm
  subst hwc'
  go_upto_region 5 with fail
  go_cut [40] (fun t w' => t = .bool (decide (ns = nb + 1)) ∧ w' = w1)
  case first =>
    rcases H.out.s with ⟨e1, e2, e3⟩ | ⟨e1, e2, e3⟩
    · have hd : Hid (decide (ns = nb + 1) = false) := decide_eq_false (by omega)
      by_cases hk : nb < l.length
      · have hk' : (nb : Int) < (l.length : Int) := by omega
        have hge : (0 : Int) ≤ (nb : Int) := by omega
        have hat := s8_at l nb hk (nb : Int) rfl
        obtain ⟨n1, n2⟩ := e3 hk
        have t1 : (((l.getD nb 0).toNat : Int) == 43) = false := by rw [beq_eq_false_iff_ne]; omega
        have t2 : (((l.getD nb 0).toNat : Int) == 45) = false := by rw [beq_eq_false_iff_ne]; omega
        unfold bv at hat
        clear n1 n2 e1 e2 e3
        generalize (l.getD nb 0).toNat = x at *
        generalize S8 l = sl at *
        go_wp2_with fail
        go_meet
        exact ⟨by rw [hd.out], rfl⟩
      · have t0 : decide (nb < l.length) = false := decide_eq_false hk
        clear e1 e2 e3
        generalize S8 l = sl at *
        go_wp2_with fail
        go_meet
        exact ⟨by rw [hd.out], rfl⟩
    · have hd : Hid (decide (ns = nb + 1) = true) := decide_eq_true e1
      have hk' : (nb : Int) < (l.length : Int) := by omega
      have hge : (0 : Int) ≤ (nb : Int) := by omega
      have hat := s8_at l nb e2 (nb : Int) rfl
      unfold bv at hat
      rcases e3 with ⟨e3, _⟩ | ⟨e3, _⟩
      · have t1 : (((l.getD nb 0).toNat : Int) == 43) = true := by rw [e3]; rfl
        clear e1 e3
        generalize (l.getD nb 0).toNat = x at *
        generalize S8 l = sl at *
        go_wp2_with fail
        go_meet
        exact ⟨by rw [hd.out], rfl⟩
      · have t1 : (((l.getD nb 0).toNat : Int) == 43) = false := by rw [e3]; rfl
        have t2 : (((l.getD nb 0).toNat : Int) == 45) = true := by rw [e3]; rfl
        clear e1 e3
        generalize (l.getD nb 0).toNat = x at *
        generalize S8 l = sl at *
        go_wp2_with fail
        go_meet
        exact ⟨by rw [hd.out], rfl⟩
  case rest =>
  obtain ⟨rfl, hwc⟩ := hcut
  have hwc' := hwc.symm
  subst hwc'
  go_upto_if 40 with fail
  go_cut [3, 4] (fun i n w' => i = .int .i64 (ns : Int) ∧ n = .bool neg ∧ w' = w1)
  case first =>
    rcases H.out.s with ⟨e1, e2, e3⟩ | ⟨e1, e2, e3⟩
    · have hd : decide (ns = nb + 1) = false := decide_eq_false (by omega)
      rw [hd]
      clear hd
      go_wp2_with fail
      go_meet
      exact ⟨by rw [e1], by rw [e2], rfl⟩
    · have hd : decide (ns = nb + 1) = true := decide_eq_true e1
      rw [hd]
      have hk' : (nb : Int) < (l.length : Int) := by omega
      have hge : (0 : Int) ≤ (nb : Int) := by omega
      have hbig : (nb : Int) ≤ 1000 := by omega
      have hat := s8_at l nb e2 (nb : Int) rfl
      unfold bv at hat
      have E1 : Hid ((nb : Int) + 1 = (ns : Int)) := by show _ = _; omega
      clear hd
      rcases e3 with ⟨e3, e4⟩ | ⟨e3, e4⟩
      · have t2 : (((l.getD nb 0).toNat : Int) == 45) = false := by rw [e3]; rfl
        have E4 := Lib.hid e4
        clear e1 e3 e4
        generalize (l.getD nb 0).toNat = x at *
        generalize S8 l = sl at *
        go_wp2_with fail
        go_meet
        exact ⟨by rw [E1.out], by rw [E4.out], rfl⟩
      · have t2 : (((l.getD nb 0).toNat : Int) == 45) = true := by rw [e3]; rfl
        have E4 := Lib.hid e4
        clear e1 e3 e4
        generalize (l.getD nb 0).toNat = x at *
        generalize S8 l = sl at *
        go_wp2_with fail
        go_meet
        exact ⟨by rw [E1.out], by rw [E4.out], rfl⟩
  case rest =>
  obtain ⟨rfl, rfl, hwc⟩ := hcut
  have hwc' := hwc.symm
  subst hwc'
  go_upto_block 2 with fail
  go_cut [3, 5] (fun i q w' => i = .int .i64 (nw : Int) ∧ q = .string (S8 W) ∧ w' = w1)
  case first =>
    go_upto_region 9 with fail
    go_loop [3, 5] (fun i q => ∃ j : Nat, j ≤ W.length ∧ i = .int .i64 ((ns + j : Nat) : Int) ∧ q = .string (S8 (W.take j))) (fun i _ => l.length - (intOf i).toNat)
    case atStart => exact ⟨0, by omega, rfl, rfl⟩
    case round =>
      obtain ⟨j, hj, rfl, rfl⟩ := hrel
      by_cases hlt : j < W.length
      · obtain ⟨hkl, hge0⟩ := H.out.w j hlt
        have hkl' : ((ns + j : Nat) : Int) < (l.length : Int) := by omega
        have hge : (0 : Int) ≤ ((ns + j : Nat) : Int) := by omega
        have hbig : ((ns + j : Nat) : Int) ≤ 1000 := by omega
        have hat := s8_at l (ns + j) hkl _ rfl
        have hon := s8_one l (ns + j) hkl _ _ rfl rfl
        have HC : Hid (∀ w, Calls Tryd.prog 29 #[bv (l.getD (ns + j) 0)] w fun e w' => e = .returned (.bool true) ∧ w = w') := by
          intro w
          have := digit2_u (l.getD (ns + j) 0) w
          rwa [hge0, dgtU_iff.2 (H.out.dw.getD hlt), ← hge0] at this
        have a1 : ∀ w, (Op.stringOp .add (S8 (W.take j)) (S8 [l.getD (ns + j) 0])).run Tryd.prog w = .ok (.string (S8 (W.take (j + 1)))) w := by
          intro w
          have := s8_add (W.take j) [l.getD (ns + j) 0] (by have := HLW.out; rw [List.length_take]; simp only [List.length_cons, List.length_nil]; omega) w
          rw [hge0, ← take_u8 W hlt, ← hge0] at this
          exact this
        obtain ⟨sn, hsn⟩ : ∃ sn, sn = S8 (W.take (j + 1)) := ⟨_, rfl⟩
        rw [← hsn] at a1
        have HSN := Lib.hid hsn
        have HE : Hid (((ns + j : Nat) : Int) + 1 = ((ns + (j + 1) : Nat) : Int)) := by show _ = _; omega
        have HM : Hid (l.length - (((ns + j : Nat) : Int) + 1).toNat < l.length - (((ns + j : Nat) : Int)).toNat) := by show _ < _; omega
        clear hsn hge0 hkl
        generalize S8 (W.take j) = so at *
        generalize l.getD (ns + j) 0 = x at *
        generalize S8 [x] = sx at *
        generalize S8 l = sl at *
        generalize ((ns + j : Nat) : Int) = ii at *
        go_wp2_with (go_at_call 29; refine (HC.out _).mono ?_; rintro e w' ⟨rfl, rfl⟩)
        go_round
        case rel => exact ⟨j + 1, by omega, by rw [HE.out], by rw [HSN.out]⟩
        case measure => exact HM.out
      · obtain rfl : j = W.length := by omega
        have E1 : Hid (((ns + W.length : Nat) : Int) = (nw : Int)) := by have := HLW.out; show _ = _; omega
        have E2 : Hid (S8 (W.take W.length) = S8 W) := by show _ = _; rw [List.take_of_length_le (Nat.le_refl _)]
        by_cases hk : ns + W.length < l.length
        · have hkl' : ((ns + W.length : Nat) : Int) < (l.length : Int) := by omega
          have hge : (0 : Int) ≤ ((ns + W.length : Nat) : Int) := by omega
          have hat := s8_at l (ns + W.length) hk _ rfl
          have HC : Hid (∀ w, Calls Tryd.prog 29 #[bv (l.getD (ns + W.length) 0)] w fun e w' => e = .returned (.bool false) ∧ w = w') := by
            intro w
            have := digit2_u (l.getD (ns + W.length) 0) w
            rwa [← HLW.out, H.out.w' (by have := HLW.out; omega), HLW.out] at this
          clear hk
          generalize S8 (W.take W.length) = so at *
          generalize l.getD (ns + W.length) 0 = x at *
          generalize S8 l = sl at *
          generalize ((ns + W.length : Nat) : Int) = ii at *
          go_wp2_with (go_at_call 29; refine (HC.out _).mono ?_; rintro e w' ⟨rfl, rfl⟩)
          go_meet
          case rel => exact ⟨by rw [E1.out], by rw [E2.out], rfl⟩
        · have t0 : decide (((ns + W.length : Nat) : Int) < (l.length : Int)) = false := decide_eq_false (by omega)
          have t0' : decide (ns + W.length < l.length) = false := decide_eq_false hk
          generalize S8 (W.take W.length) = so at *
          generalize S8 l = sl at *
          go_wp2_with fail
          go_meet
          case rel => exact ⟨by rw [← E1.out]; rfl, by rw [E2.out], rfl⟩
  case rest =>
  obtain ⟨rfl, rfl, hwc⟩ := hcut
  have hwc' := hwc.symm
  subst hwc'
  go_upto_region 13 with fail
  go_cut [75] (fun t w' => t = .bool pt ∧ w' = w1)
  case first =>
    rcases H.out.p with ⟨e1, e2, e3, e4⟩ | ⟨e1, e2, e3, e4⟩
    · have hd := Lib.hid e1
      by_cases hk : nw < l.length
      · have hk' : (nw : Int) < (l.length : Int) := by omega
        have hge : (0 : Int) ≤ (nw : Int) := by omega
        have hat := s8_at l nw hk (nw : Int) rfl
        have n1 := e4 hk
        have t1 : (((l.getD nw 0).toNat : Int) == 46) = false := by rw [beq_eq_false_iff_ne]; omega
        unfold bv at hat
        clear n1 e1 e2 e3 e4
        generalize (l.getD nw 0).toNat = x at *
        generalize S8 l = sl at *
        go_wp2_with fail
        go_meet
        first | exact ⟨by rw [hd.out], rfl⟩ | simp [hd.out]
      · have t0 : decide (nw < l.length) = false := decide_eq_false hk
        clear e1 e2 e3 e4
        generalize S8 l = sl at *
        go_wp2_with fail
        go_meet
        first | exact ⟨by rw [hd.out], rfl⟩ | simp [hd.out]
    · have hd := Lib.hid e1
      have hk' : (nw : Int) < (l.length : Int) := by omega
      have hge : (0 : Int) ≤ (nw : Int) := by omega
      have hat := s8_at l nw e3 (nw : Int) rfl
      have t1 : (((l.getD nw 0).toNat : Int) == 46) = true := by rw [e4]; rfl
      unfold bv at hat
      clear e1 e2 e4
      generalize (l.getD nw 0).toNat = x at *
      generalize S8 l = sl at *
      go_wp2_with fail
      go_meet
      first | exact ⟨by rw [hd.out], rfl⟩ | simp [hd.out]
  case rest =>
  obtain ⟨rfl, hwc⟩ := hcut
  have hwc' := hwc.symm
  subst hwc'
  go_upto_if 75 with fail
  go_cut [3, 6] (fun i q w' => (∃ I : Nat, i = .int .i64 (I : Int) ∧ I ≤ l.length ∧ (W.length + F.length ≠ 0 → I = np + F.length)) ∧ q = .string (S8 F) ∧ w' = w1)
  case first =>
    rcases H.out.p with ⟨e1, e2, e3, e4⟩ | ⟨e1, e2, e3, e4⟩
    · have E2 := Lib.hid e2
      have E3 := Lib.hid e3
      rw [e1]
      clear e1 e2 e3 e4
      go_wp2_with fail
      go_meet
      exact ⟨⟨nw, rfl, hle, fun _ => by rw [E2.out, E3.out]; rfl⟩, by rw [E3.out]; rfl, rfl⟩
    · have hnb : (nw : Int) ≤ 1000 := by omega
      have hn0 : (0 : Int) ≤ (nw : Int) := by omega
      have E2 : Hid ((nw : Int) + 1 = ((np + 0 : Nat) : Int)) := by show _ = _; omega
      have E1 := Lib.hid e1
      rw [e1]
      clear e1 e2 e3 e4
      have hlnW := s8_len W
      have hlnF := s8_len F
      have HF : Hid (F.length ≤ 1000) := by have := H.out.le; show _ ≤ _; omega
      have HW2 : Hid (W.length ≤ 1000) := by have := HLW.out; show _ ≤ _; omega
      have b1 : (F.length : Int) ≤ 1000 := by have := HF.out; omega
      have b2 : (W.length : Int) ≤ 1000 := by have := HW2.out; omega
      have b3 : (0 : Int) ≤ (F.length : Int) := by omega
      have b4 : (0 : Int) ≤ (W.length : Int) := by omega
      go_upto_block 4 with fail
      go_cut [6, 7] (fun q i w' => q = .string (S8 F) ∧ i = .int .i64 ((np + F.length : Nat) : Int) ∧ w' = w1)
      case first =>
        go_upto_region 15 with fail
        go_loop [6, 7] (fun q i => ∃ j : Nat, j ≤ F.length ∧ i = .int .i64 ((np + j : Nat) : Int) ∧ q = .string (S8 (F.take j))) (fun _ i => l.length - (intOf i).toNat)
        case atStart => exact ⟨0, by omega, by rw [E2.out], rfl⟩
        case round =>
          obtain ⟨j, hj, rfl, rfl⟩ := hrel
          by_cases hlt : j < F.length
          · obtain ⟨hkl, hge0⟩ := H.out.f j hlt
            have hkl' : ((np + j : Nat) : Int) < (l.length : Int) := by omega
            have hge : (0 : Int) ≤ ((np + j : Nat) : Int) := by omega
            have hbig : ((np + j : Nat) : Int) ≤ 1000 := by omega
            have hat := s8_at l (np + j) hkl _ rfl
            have hon := s8_one l (np + j) hkl _ _ rfl rfl
            have HC : Hid (∀ w, Calls Tryd.prog 29 #[bv (l.getD (np + j) 0)] w fun e w' => e = .returned (.bool true) ∧ w = w') := by
              intro w
              have := digit2_u (l.getD (np + j) 0) w
              rwa [hge0, dgtU_iff.2 (H.out.df.getD hlt), ← hge0] at this
            have a1 : ∀ w, (Op.stringOp .add (S8 (F.take j)) (S8 [l.getD (np + j) 0])).run Tryd.prog w = .ok (.string (S8 (F.take (j + 1)))) w := by
              intro w
              have := s8_add (F.take j) [l.getD (np + j) 0] (by have := HF.out; rw [List.length_take]; simp only [List.length_cons, List.length_nil]; omega) w
              rw [hge0, ← take_u8 F hlt, ← hge0] at this
              exact this
            obtain ⟨sn, hsn⟩ : ∃ sn, sn = S8 (F.take (j + 1)) := ⟨_, rfl⟩
            rw [← hsn] at a1
            have HSN := Lib.hid hsn
            have HE : Hid (((np + j : Nat) : Int) + 1 = ((np + (j + 1) : Nat) : Int)) := by show _ = _; omega
            have HM : Hid (l.length - (((np + j : Nat) : Int) + 1).toNat < l.length - (((np + j : Nat) : Int)).toNat) := by show _ < _; omega
            clear hsn hge0 hkl
            generalize S8 (F.take j) = so at *
            generalize l.getD (np + j) 0 = x at *
            generalize S8 [x] = sx at *
            generalize S8 l = sl at *
            generalize ((np + j : Nat) : Int) = ii at *
            go_wp2_with (go_at_call 29; refine (HC.out _).mono ?_; rintro e w' ⟨rfl, rfl⟩)
            go_round
            case rel => exact ⟨j + 1, by omega, by rw [HE.out], by rw [HSN.out]⟩
            case measure => exact HM.out
          · obtain rfl : j = F.length := by omega
            have E6 : Hid (((np + F.length : Nat) : Int) = (np : Int) + (F.length : Int)) := by show _ = _; omega
            have E5 : Hid (S8 (F.take F.length) = S8 F) := by show _ = _; rw [List.take_of_length_le (Nat.le_refl _)]
            by_cases hk : np + F.length < l.length
            · have hkl' : ((np + F.length : Nat) : Int) < (l.length : Int) := by omega
              have hge : (0 : Int) ≤ ((np + F.length : Nat) : Int) := by omega
              have hat := s8_at l (np + F.length) hk _ rfl
              have HC : Hid (∀ w, Calls Tryd.prog 29 #[bv (l.getD (np + F.length) 0)] w fun e w' => e = .returned (.bool false) ∧ w = w') := by
                intro w
                have := digit2_u (l.getD (np + F.length) 0) w
                rwa [H.out.f' E1.out hk] at this
              clear hk
              generalize S8 (F.take F.length) = so at *
              generalize l.getD (np + F.length) 0 = x at *
              generalize S8 l = sl at *
              generalize ((np + F.length : Nat) : Int) = ii at *
              go_wp2_with (go_at_call 29; refine (HC.out _).mono ?_; rintro e w' ⟨rfl, rfl⟩)
              go_meet
              case rel => exact ⟨by rw [E5.out], (by first | rfl | (rw [E6.out, Int.natCast_add]) | (rw [Int.natCast_add])), rfl⟩
            · have t0 : decide (((np + F.length : Nat) : Int) < (l.length : Int)) = false := decide_eq_false (by omega)
              have t0' : decide (np + F.length < l.length) = false := decide_eq_false hk
              generalize S8 (F.take F.length) = so at *
              generalize S8 l = sl at *
              go_wp2_with fail
              go_meet
              case rel => exact ⟨by rw [E5.out], (by first | rfl | (rw [E6.out, Int.natCast_add]) | (rw [Int.natCast_add])), rfl⟩
      case rest =>
        obtain ⟨rfl, rfl, hwc⟩ := hcut
        have hwc' := hwc.symm
        subst hwc'
        by_cases hz : W.length + F.length = 0
        · have t0 : decide ((0 : Int) < (W.length : Int) + (F.length : Int)) = false := decide_eq_false (by omega)
          have HZ := Lib.hid hz
          clear hz
          go_wp2_with fail
          go_meet
          exact ⟨⟨nw, rfl, hle, fun h0 => absurd HZ.out h0⟩, rfl, rfl⟩
        · have t0 : decide ((0 : Int) < (W.length : Int) + (F.length : Int)) = true := decide_eq_true (by omega)
          clear hz
          go_wp2_with fail
          go_meet
          exact ⟨⟨np + F.length, rfl, H.out.le, fun _ => rfl⟩, rfl, rfl⟩
  case rest =>
  obtain ⟨⟨I, rfl, hI, hIN⟩, rfl, hwc⟩ := hcut
  have hwc' := hwc.symm
  subst hwc'
  have hlnW := s8_len W
  have hlnF := s8_len F
  have HFl : Hid (F.length ≤ 1000) := by have := H.out.le; show _ ≤ _; omega
  have HWl : Hid (W.length ≤ 1000) := by have := HLW.out; show _ ≤ _; omega
  have b1 : (F.length : Int) ≤ 1000 := by have := HFl.out; omega
  have b2 : (W.length : Int) ≤ 1000 := by have := HWl.out; omega
  have b3 : (0 : Int) ≤ (F.length : Int) := by omega
  have b4 : (0 : Int) ≤ (W.length : Int) := by omega
  have HR : Hid (Row w1 w.heap.size 35 #[.bool false, .slice none 0 0, .int .i64 0, .int .i64 0]) := by show Row _ _ _ _; rw [← HW1.out]; exact Row.new w _ _
  have HB1 : Hid (Below w.heap.size w w1) := by show Below _ _ _; rw [← HW1.out]; exact (Below.refl _ _).alloc (Nat.le_refl _) _
  clear hle hnb hln HW1
  by_cases hz : W.length + F.length = 0
  · have t0 : (((W.length : Int) + (F.length : Int)) == 0) = true := by rw [beq_iff_eq]; omega
    have HZ := Lib.hid (hz0 hz)
    have c0 := HR.out.cell 0
    have c1 := HR.out.cell 1
    have c2 := HR.out.cell 2
    have c3 := HR.out.cell 3
    have f0 := HR.out.froz 0
    have f1 := HR.out.froz 1
    have f2 := HR.out.froz 2
    have f3 := HR.out.froz 3
    simp only [List.getElem?_toArray, List.getElem?_cons_zero, List.getElem?_cons_succ] at c0 c1 c2 c3
    have hB1 := HB1.out
    have hEnd : Below w.heap.size w ((((w1.setCell ⟨w.heap.size, 0, none⟩ (.bool false)).setCell ⟨w.heap.size, 1, none⟩ (.slice none 0 0)).setCell ⟨w.heap.size, 2, none⟩ (.int .i64 0)).setCell ⟨w.heap.size, 3, none⟩ (.int .i64 0)) := by repeat (first | (with_reducible exact Below.refl _ _) | (with_reducible refine Below.drew ?_) | (refine Below.setCell ?_ (by first | exact Nat.le_refl _ | (simp; done) | (simp; omega) | omega) _) | (refine Below.alloc ?_ (by first | exact Nat.le_refl _ | (simp; done) | (simp; omega) | omega) _) | (refine Below.trans ?_ (Below.mono (by assumption) (by first | exact Nat.le_refl _ | (simp; done) | (simp; omega) | omega))))
    have HEnd := Lib.hid hEnd
    clear hz hz0 hz1 hB1 hEnd
    go_wp2
    refine bodyPost_ret (v := .agg #[.bool false, .slice none 0 0, .int .i64 0, .int .i64 0]) (by simp [results, Tryd.results11, go_sem, *]) rfl ?_
    obtain ⟨rfl, rfl, rfl⟩ := HZ.out
    exact ⟨none, 0, by rw [show dig (Int.natAbs 0) = [] from dig_zero]; rfl, by rw [show dig (Int.natAbs 0) = [] from dig_zero]; exact Ints.nil _, HEnd.out⟩
  · have t0 : (((W.length : Int) + (F.length : Int)) == 0) = false := by rw [beq_eq_false_iff_ne]; omega
    have HZ := Lib.hid (hz1 hz)
    have HIN := Lib.hid (hIN hz)
    clear hz hz0 hz1 hIN
    obtain ⟨i0, hi0, hz0, hz1, hz2⟩ := info_parts int_info
    have HV6 : Hid (∀ p j, p + 1 + j = 6 → (lsf (six F)).take (j + 1) = (lsf (six F)).take j ++ [if p < F.length then (F.getD p 0).toNat - 48 else 0]) := fun p j hpj => lsf_six F hpj
    have HVW : Hid (∀ p j, p + 1 + j = W.length → (lsf W).take (j + 1) = (lsf W).take j ++ [(W.getD p 0).toNat - 48]) := fun p j hpj => lsf_next W hpj
    have HL6 : Hid ((lsf (six F)).length = 6) := by show _ = _; rw [lsf_len, six_len]
    have HLW2 : Hid ((lsf W).length = W.length) := lsf_len W
    have HMG := Lib.hid (mag_lsf W F)
    have HDG : Hid (Digs (lsf (six F) ++ lsf W)) := (lsf_digs (six_dgt H.out.df)).app (lsf_digs H.out.dw)
    have hD1 := fun j (hj : j < F.length) => H.out.df.getD hj
    have hD2 := fun j (hj : j < W.length) => H.out.dw.getD hj
    have HD1 := Lib.hid hD1
    have HD2 := Lib.hid hD2
    clear hD1 hD2 H HLW hbs
    generalize lsf (six F) = L6 at *
    generalize lsf W = LW at *
    generalize magOf W F = mg at *
    go_wp2
    go_loopw [8, 9] (fun out kk wr => ∃ (q j : Nat) (kv : Int), q + j = 6 ∧ kv + 1 = (q : Int) ∧ kk = .int .i64 kv ∧ wr.ownsRow w1.heap.size 3 1 out j (ivs (L6.take j)) ∧ Below w1.heap.size w1 wr) (fun _ kk _ => (intOf kk + 1).toNat)
    case atStart => exact ⟨6, 0, 5, rfl, rfl, rfl, World.ownsRow_nil _ _ _ _, Below.refl _ _⟩
    case round =>
      obtain ⟨q, j, kv, hqj, hkv, rfl, hown, hB⟩ := hrel
      cases q with
      | succ p =>
        obtain rfl : kv = (p : Int) := by omega
        have hp6 : (p : Int) ≤ 5 := by omega
        have hp0 : (0 : Int) ≤ (p : Int) := by omega
        have HPJ : Hid (p + 1 + j = 6) := hqj
        have HM : Hid (((p : Int) - 1 + 1).toNat < ((p : Int) + 1).toNat) := by show _ < _; omega
        have HK : Hid ((p : Int) - 1 + 1 = (p : Int)) := by show _ = _; omega
        by_cases hpf : p < F.length
        · have hat := s8_at F p hpf (p : Int) rfl
          have hx := HD1.out p hpf
          have hnx := HV6.out p j hqj
          rw [if_pos hpf] at hnx
          have HNX := Lib.hid hnx
          unfold isDgt at hx
          unfold bv at hat
          clear hnx hkv
          generalize (F.getD p 0).toNat = x at *
          have hx0 : (48 : Int) ≤ (x : Int) := by omega
          have hx1 : (x : Int) ≤ 57 := by omega
          have EX : Hid (ivs (L6.take j) ++ [Value.int .i64 ((x : Int) - 48)] = ivs (L6.take (j + 1))) := by
            show _ = _
            rw [HNX.out, ivs_append]
            congr 1
            show _ = [Value.int .i64 ((x - 48 : Nat) : Int)]
            rw [show ((x - 48 : Nat) : Int) = (x : Int) - 48 by omega]
          have hpf' : (p : Int) < (F.length : Int) := by omega
          have Hmx1 := Lib.hid (small_max (n := j + 1) (by omega)); have Hbs1 : Hid (w1.heap.size ≤ wr.heap.size) := (by show _ ≤ _; have := hB.size; omega)
          clear hqj hx hpf
          generalize S8 F = sF at *
          generalize (F.length : Int) = nF at *
          go_wp2_with (at_builtin; refine wpList_append_own_at _ rfl (.tmp 124) (.tmp 126) _ rfl w1.heap.size 3 i0 _ 1 8 Tryd.underlying31 hi0 hz0 hz1 hz2 rfl (by decide) (u8) (j) (ivs (L6.take j)) rfl (hown.alloc _) ⟨wr.heap.size, 0, none⟩ 1 1 [.int .i64 ((x : Int) - 48)] rfl rfl (one_news wr _ _) (one_one _) Hmx1.out.1 Hmx1.out.2 (alloc_le Hbs1.out) ?_; intro v1 w1 hown1 hgrow1 _ hat1)
          have hB1 := own_below hB (by have := hB.size; omega) hown hgrow1
          go_roundw
          case rel => exact ⟨p, j + 1, _, by have := HPJ.out; omega, HK.out, rfl, by rw [← EX.out]; exact hown1, hB1⟩
          case measure => exact HM.out
        · have hnx := HV6.out p j hqj
          rw [if_neg hpf] at hnx
          have HNX := Lib.hid hnx
          have hpf' : ¬ (p : Int) < (F.length : Int) := by omega
          have tn : decide ((p : Int) < (F.length : Int)) = false := decide_eq_false hpf'
          have tn' : decide (p < F.length) = false := decide_eq_false hpf
          have EX : Hid (ivs (L6.take j) ++ [Value.int .i64 0] = ivs (L6.take (j + 1))) := by
            show _ = _
            rw [HNX.out, ivs_append]; rfl
          have Hmx2 := Lib.hid (small_max (n := j + 1) (by omega)); have Hbs2 : Hid (w1.heap.size ≤ wr.heap.size) := (by show _ ≤ _; have := hB.size; omega)
          clear hqj hnx hpf hpf' hkv
          go_wp2_with (at_builtin; refine wpList_append_own_at _ rfl (.tmp 124) (.tmp 126) _ rfl w1.heap.size 3 i0 _ 1 8 Tryd.underlying31 hi0 hz0 hz1 hz2 rfl (by decide) (u8) (j) (ivs (L6.take j)) rfl (hown.alloc _) ⟨wr.heap.size, 0, none⟩ 1 1 [.int .i64 (0)] rfl rfl (one_news wr _ _) (one_one _) Hmx2.out.1 Hmx2.out.2 (alloc_le Hbs2.out) ?_; intro v2 w2 hown2 hgrow2 _ hat2)
          have hB1 := own_below hB (by have := hB.size; omega) hown hgrow2
          go_roundw
          case rel => exact ⟨p, j + 1, _, by have := HPJ.out; omega, HK.out, rfl, by rw [← EX.out]; exact hown2, hB1⟩
          case measure => exact HM.out
      | zero =>
        obtain rfl : kv = -1 := by omega
        obtain rfl : j = 6 := by omega
        rw [List.take_of_length_le (by rw [HL6.out]; exact Nat.le_refl _)] at hown
        have HO := Lib.hid hown
        have HBr := Lib.hid hB
        clear hown hB hqj hkv
        obtain ⟨wq, hwq⟩ : ∃ q, q = wr := ⟨_, rfl⟩
        subst hwq
        go_wp2
        go_loopw [8, 11] (fun out kk wr => ∃ (q j : Nat) (kv : Int), q + j = W.length ∧ kv + 1 = (q : Int) ∧ kk = .int .i64 kv ∧ wr.ownsRow w1.heap.size 3 1 out (6 + j) (ivs (L6 ++ LW.take j)) ∧ Below w1.heap.size w1 wr) (fun _ kk _ => (intOf kk + 1).toNat)
        case atStart => exact ⟨W.length, 0, _, rfl, by omega, rfl, by rw [List.take_zero, List.append_nil]; exact HO.out, HBr.out⟩
        case round =>
          obtain ⟨q, j, kv, hqj, hkv, rfl, hown, hB⟩ := hrel
          have hWl := HWl.out
          cases q with
          | succ p =>
            obtain rfl : kv = (p : Int) := by omega
            have hp6 : (p : Int) ≤ 1000 := by omega
            have hp0 : (0 : Int) ≤ (p : Int) := by omega
            have HPJ : Hid (p + 1 + j = W.length) := hqj
            have HM : Hid (((p : Int) - 1 + 1).toNat < ((p : Int) + 1).toNat) := by show _ < _; omega
            have HK : Hid ((p : Int) - 1 + 1 = (p : Int)) := by show _ = _; omega
            have hpf : p < W.length := by omega
            have hat := s8_at W p hpf (p : Int) rfl
            have hx := HD2.out p hpf
            have HNX := Lib.hid (HVW.out p j hqj)
            unfold isDgt at hx
            unfold bv at hat
            clear hkv
            generalize (W.getD p 0).toNat = x at *
            have hx0 : (48 : Int) ≤ (x : Int) := by omega
            have hx1 : (x : Int) ≤ 57 := by omega
            have EX : Hid (ivs (L6 ++ LW.take j) ++ [Value.int .i64 ((x : Int) - 48)] = ivs (L6 ++ LW.take (j + 1))) := by
              show _ = _
              rw [HNX.out, ← List.append_assoc, ivs_append (L6 ++ LW.take j)]
              congr 1
              show _ = [Value.int .i64 ((x - 48 : Nat) : Int)]
              rw [show ((x - 48 : Nat) : Int) = (x : Int) - 48 by omega]
            have hpf' : (p : Int) < (W.length : Int) := by omega
            have Hmx3 := Lib.hid (small_max (n := 6 + j + 1) (by omega)); have Hbs3 : Hid (w1.heap.size ≤ wr.heap.size) := (by show _ ≤ _; have := hB.size; omega)
            clear hqj hx hpf hWl
            generalize S8 W = sW at *
            generalize (W.length : Int) = nW at *
            go_wp2_with (at_builtin; refine wpList_append_own_at _ rfl (.tmp 135) (.tmp 141) _ rfl w1.heap.size 3 i0 _ 1 8 Tryd.underlying31 hi0 hz0 hz1 hz2 rfl (by decide) (u8) (6 + j) (ivs (L6 ++ LW.take j)) rfl (hown.alloc _) ⟨wr.heap.size, 0, none⟩ 1 1 [.int .i64 ((x : Int) - 48)] rfl rfl (one_news wr _ _) (one_one _) Hmx3.out.1 Hmx3.out.2 (alloc_le Hbs3.out) ?_; intro v3 w3 hown3 hgrow3 _ hat3)
            have hB1 := own_below hB (by have := hB.size; omega) hown hgrow3
            go_roundw
            case rel => exact ⟨p, j + 1, _, by have := HPJ.out; omega, HK.out, rfl, by rw [← EX.out, ← Nat.add_assoc]; exact hown3, hB1⟩
            case measure => exact HM.out
          | zero =>
            obtain rfl : kv = -1 := by omega
            obtain rfl : j = W.length := by omega
            rw [List.take_of_length_le (by rw [HLW2.out]; exact Nat.le_refl _)] at hown
            have HO2 := Lib.hid hown
            have HB2 := Lib.hid hB
            clear hown hB hqj hkv
            obtain ⟨A8, c8, rfl, hI8⟩ := Ints.of_own HO2.out
            have hLen : (L6 ++ LW).length = 6 + W.length := by rw [List.length_append, HL6.out, HLW2.out]
            have hVal : Hid (dval (L6 ++ LW) = mg) := HMG.out
            have HDG2 := HDG
            clear HL6 HLW2 HMG HD1 HD2 HV6 HVW HO HO2 HDG
            generalize L6 ++ LW = L at *
            obtain ⟨b8, o8, rfl, hb8, hc8⟩ := hI8.at_ (by rintro rfl; simp at hLen; omega)
            have HI8 := Lib.hid hI8
            have HC8 := Lib.hid hc8
            have HLn := Lib.hid hLen
            have hLle : L.length ≤ 1006 := by omega
            have hlc : L.length ≤ c8 := hI8.1
            clear hI8 hc8 hLen hWl
            obtain ⟨wq2, hwq2⟩ : ∃ q, q = wr := ⟨_, rfl⟩
            subst hwq2
            go_upto_block 10 with fail
            go_cut [12] (fun n w' => (∃ k : Nat, n = .int .i64 (k : Int) ∧ k ≤ L.length ∧ Hid (L.take k = dig mg)) ∧ w' = wq2)
            case first =>
              have hLi : (L.length : Int) ≤ 1006 := by omega
              go_upto_region 35 with fail
              go_loop [12] (fun n => ∃ k : Nat, k ≤ L.length ∧ n = .int .i64 k ∧ Hid (dval (L.take k) = mg)) (fun n => (intOf n).toNat)
              case atStart => exact ⟨L.length, Nat.le_refl _, rfl, by show _ = _; rw [List.take_of_length_le (Nat.le_refl _)]; exact hVal.out⟩
              case round =>
                obtain ⟨k, hk, rfl, hv⟩ := hrel
                cases k with
                | zero =>
                  have hd0 : Hid (L.take 0 = dig mg) := by show _ = _; rw [← hv.out]; simp [dval, dig_zero]
                  clear hv
                  go_wp2_with fail
                  go_meet
                  case rel => exact ⟨⟨0, rfl, Nat.zero_le _, hd0⟩, rfl⟩
                | succ j =>
                  have hj := HC8.out j (by omega)
                  have hlt : (j : Int) < (L.length : Int) := by omega
                  have hlt' : j < L.length := by omega
                  have hge : (0 : Int) ≤ (j : Int) := by omega
                  have hgt : decide ((0 : Int) < ((j + 1 : Nat) : Int)) = true := decide_eq_true (by omega)
                  have hsub : ((j + 1 : Nat) : Int) - 1 = (j : Int) := by omega
                  have hk1 : ((j + 1 : Nat) : Int) ≤ 1006 := by omega
                  have hx := HDG2.out.getD j
                  have HT : Hid (L.take (j + 1) = L.take j ++ [L.getD j 0]) := take_succ_getD L (by omega)
                  have HE : Hid ((j : Int) = ((j : Nat) : Int)) := rfl
                  by_cases hz : L.getD j 0 = 0
                  · have tb : (((L.getD j 0 : Nat) : Int) == 0) = true := by rw [hz]; rfl
                    have hv' : Hid (dval (L.take j) = mg) := by
                      show _ = _
                      rw [← hv.out, HT.out, dval_append, hz]; simp [dval]
                    clear hz hv HT
                    generalize L.getD j 0 = x at *
                    go_wp2_with fail
                    go_round
                    case rel => exact ⟨j, by omega, by go_num, hv'⟩
                    case measure => simp [intOf]
                  · have tb : (((L.getD j 0 : Nat) : Int) == 0) = false := by rw [beq_eq_false_iff_ne]; omega
                    have hu : Hid (L.take (j + 1) = dig mg) := by
                      show _ = _
                      rw [← hv.out]
                      apply dig_unique (HDG2.out.take _)
                      intro _
                      rw [List.length_take, Nat.min_eq_left (by omega), Nat.add_sub_cancel, HT.out, dval_append, List.length_take, Nat.min_eq_left (by omega)]
                      simp only [dval]
                      have : 10 ^ j * 1 ≤ 10 ^ j * (L.getD j 0 + 10 * 0) := Nat.mul_le_mul_left _ (by omega)
                      omega
                    clear hz hv HT
                    generalize L.getD j 0 = x at *
                    go_wp2_with fail
                    go_meet
                    case rel => exact ⟨⟨j + 1, rfl, hk, hu⟩, rfl⟩
            case rest =>
            obtain ⟨⟨k, rfl, hkL, hTK⟩, hwc⟩ := hcut
            have hwc' := hwc.symm
            subst hwc'
            have hkd : k = (dig mg).length := by rw [← hTK.out, List.length_take]; omega
            have HKD := Lib.hid hkd
            clear hkd
            have HRq : Hid (Row wq2 w.heap.size 35 #[.bool false, .slice none 0 0, .int .i64 0, .int .i64 0]) := HR.out.on HB2.out
            have c0 := HRq.out.cell 0
            have c1 := HRq.out.cell 1
            have c2 := HRq.out.cell 2
            have c3 := HRq.out.cell 3
            have f0 := HRq.out.froz 0
            have f1 := HRq.out.froz 1
            have f2 := HRq.out.froz 2
            have f3 := HRq.out.froz 3
            simp only [List.getElem?_toArray, List.getElem?_cons_zero, List.getElem?_cons_succ] at c0 c1 c2 c3
            have hk0 : (0 : Int) ≤ (k : Int) := by omega
            have hkL' : (k : Int) ≤ (L.length : Int) := by omega
            have hkc : (k : Int) ≤ (c8 : Int) := by omega
            have hkc' : k ≤ c8 := by omega
            obtain ⟨e1, e2, e3⟩ := HZ.out
            have HE1 := Lib.hid e1
            have HE2 := Lib.hid e2
            have HE3 := Lib.hid e3
            clear e1 e2 e3
            by_cases hT : mg < topN
            · have t36 := over36 HKD.out hT
              have HGF := Lib.hid (got_fin neg HKD.out hT)
              clear hT
              cases neg with
              | true =>
                have hB1 := HB1.out
                have hEnd := below4 (hB1.trans (HB2.out.mono hB1.size)) (Nat.le_refl _) (.bool (decide (0 < k))) (.slice (some ⟨b8, o8, none⟩) k c8) (.int .i64 (I : Int)) (.int .i64 0)
                have HEnd := Lib.hid hEnd
                clear hEnd hB1
                go_wp2_with fail
                refine bodyPost_ret (v := .agg #[.bool (decide (0 < k)), (.slice (some ⟨b8, o8, none⟩) k c8), .int .i64 (I : Int), .int .i64 0]) (by simp [results, Tryd.results11, go_sem, *]) rfl ?_
                refine ⟨some ⟨b8, o8, none⟩, c8, by rw [HE1.out, HE2.out, HE3.out, HGF.out.1, HGF.out.2.1, HGF.out.2.2, ← HKD.out, HIN.out]; rfl, ?_, HEnd.out⟩
                rw [HE1.out, HGF.out.2.1, ← hTK.out]
                exact (HI8.out.take k).row4 HRq.out (by decide) _ _ _ _
              | false =>
                have hB1 := HB1.out
                have hEnd := below4 (hB1.trans (HB2.out.mono hB1.size)) (Nat.le_refl _) (.bool false) (.slice (some ⟨b8, o8, none⟩) k c8) (.int .i64 (I : Int)) (.int .i64 0)
                have HEnd := Lib.hid hEnd
                clear hEnd hB1
                go_wp2_with fail
                refine bodyPost_ret (v := .agg #[.bool false, (.slice (some ⟨b8, o8, none⟩) k c8), .int .i64 (I : Int), .int .i64 0]) (by simp [results, Tryd.results11, go_sem, *]) rfl ?_
                refine ⟨some ⟨b8, o8, none⟩, c8, by rw [HE1.out, HE2.out, HE3.out, HGF.out.1, HGF.out.2.1, HGF.out.2.2, ← HKD.out, HIN.out]; rfl, ?_, HEnd.out⟩
                rw [HE1.out, HGF.out.2.1, ← hTK.out]
                exact (HI8.out.take k).row4 HRq.out (by decide) _ _ _ _
            · have t36 := over36' HKD.out hT
              have HGO := Lib.hid (got_over neg hT)
              clear hT
              have hB1 := HB1.out
              have hEnd := below4 (hB1.trans (HB2.out.mono hB1.size)) (Nat.le_refl _) (.bool false) (.slice none 0 0) (.int .i64 (I : Int)) (.int .i64 2)
              have HEnd := Lib.hid hEnd
              clear hEnd hB1
              go_wp2_with fail
              refine bodyPost_ret (v := .agg #[.bool false, (.slice none 0 0), .int .i64 (I : Int), .int .i64 2]) (by simp [results, Tryd.results11, go_sem, *]) rfl ?_
              refine ⟨none, 0, by rw [HE1.out, HE2.out, HE3.out, HGO.out.1, HGO.out.2, HIN.out, show dig (Int.natAbs 0) = [] from dig_zero]; rfl, ?_, HEnd.out⟩
              rw [HE1.out, HGO.out.1, show dig (Int.natAbs 0) = [] from dig_zero]
              exact Ints.nil _
end Go.Proofs.YtfecnogmjfmghaaDoor
