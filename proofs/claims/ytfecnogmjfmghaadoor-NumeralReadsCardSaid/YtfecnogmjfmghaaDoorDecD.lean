/- The contract of math/bits.Div64, for a divisor that is above the upper limb. -/
import Derived.Test.YtfecnogmjfmghaaDoorDecA
import Derived.Test.YtfecnogmjfmghaaDoorDecK
import Derived.Test.YtfecnogmjfmghaaDoorShelf
import Derived.Deep.QuietTactic
import Derived.BigQuiet
import Derived.Deep.Cut
import Derived.Deep.CutBlock
namespace Go.Proofs.YtfecnogmjfmghaaDoor
set_option linter.unusedSimpArgs false
set_option linter.unusedVariables false
set_option linter.unnecessarySimpa false
open Go.RowKit

set_option maxRecDepth 100000 in
theorem div64_0 (lo y : Nat) (hy : 0 < y) (hl : lo < 18446744073709551616) (w : World) :
    Calls Tryd.prog 51 #[.int .u64 0, .int .u64 (lo : Int), .int .u64 (y : Int)] w fun e w' => e = .returned (.tuple #[.int .u64 (lo / y : Nat), .int .u64 (lo % y : Nat)]) ∧ Below w.heap.size w w' := by
  have h1 : ((y : Int) == 0) = false := by simp; omega
  have h2 : decide ((y : Int) ≤ 0) = false := by simp; omega
  have h3 : (0 : Int) < y := by omega
  have h4 : (0 : Int) ≤ lo := by omega
  have h5 : lo / y < 18446744073709551616 := Nat.lt_of_le_of_lt (Nat.div_le_self _ _) hl
  have H5 := Lib.hid h5
  clear h5
  go_enter Tryd.func51, Tryd.ntmps51
  go_wp2
  go_quiet (fail)
  go_wp2
  go_ret2
  refine ⟨?_, below_drewN (Below.refl _ _) _⟩
  show Ending.returned (.tuple #[.int .u64 (IntKind.u64.wrap ((lo : Int) / y)), .int .u64 ((lo : Int) % y)]) = _
  rw [← Int.natCast_ediv, ← Int.natCast_emod, wrap_u H5.out]

set_option maxRecDepth 100000 in
theorem div64_n (hi lo y : Nat) (h0 : 0 < hi) (hy : hi < y) (hy2 : y < 18446744073709551616) (hl : lo < 18446744073709551616) (w : World) :
    Calls Tryd.prog 51 #[.int .u64 (hi : Int), .int .u64 (lo : Int), .int .u64 (y : Int)] w fun e w' => e = .returned (.tuple #[.int .u64 ((hi * 18446744073709551616 + lo) / y : Nat), .int .u64 ((hi * 18446744073709551616 + lo) % y : Nat)]) ∧ Below w.heap.size w w' := by
  have h1 : ((y : Int) == 0) = false := by simp; omega
  have h2 : decide (y ≤ hi) = false := by simp; omega
  have h3 : ((hi : Int) == 0) = false := by simp; omega
  have C : Hid (∀ w, Calls Tryd.prog 66 #[.int .u64 (y : Int)] w fun e w' => e = .returned (.int .i64 (lzN y : Nat)) ∧ w = w') := by
    intro w
    have hle := Lib.bitLen_le y 64 (by omega) (by omega)
    refine (Tryd.bits_LeadingZeros64 (y : Int) w (by omega) (by omega)).mono ?_
    rintro e w' ⟨rfl, rfl⟩
    refine ⟨?_, rfl⟩
    unfold lzN
    rw [Int.toNat_natCast, Int.ofNat_sub hle]; rfl
  have E1 := Lib.hid (sh_v (by omega) hy2)
  have E2 := Lib.hid (sh_uH hy hy2 hl)
  have E3 := Lib.hid (sh_uL (lo := lo) (by omega) hy2)
  have E4 := Lib.hid up32
  have E5 := Lib.hid (dn32 (lz_spec (by omega) hy2).2.2)
  have E6 := Lib.hid (dn32 (uL_lt lo y))
  have H := Lib.hid (And.intro h0 (And.intro hy (And.intro hy2 hl)))
  clear h0 hy hy2 hl
  go_enter Tryd.func51, Tryd.ntmps51
  go_upto_region 15 with (go_at_call 66; refine (C.out _).mono ?_; rintro e w' ⟨rfl, rfl⟩)
  simp only [E1.out, E2.out, E3.out, E4.out, E5.out, E6.out]
  have H' := H.out
  obtain ⟨g1, g2, g3, g4⟩ := H'
  have V1 := (lz_spec (by omega) g3).2.1
  have V2 := (lz_spec (by omega) g3).2.2
  have U1 := uH_lt g2 g3 g4
  have D1 := top32_lt (uL_lt lo y)
  have D0 := low32_lt (uL lo y)
  have k1 : (0 : Int) < (top32 (vN y) : Nat) := by unfold top32; omega
  have K0 := Lib.hid (kn_init (U := uH hi lo y) V1 V2 D1)
  have E7 := Lib.hid (w_div (T := top32 (vN y)) (Nat.lt_trans U1 V2))
  have E8 := Lib.hid (w_mod (T := top32 (vN y)) (Nat.lt_trans U1 V2))
  have KV := Lib.hid (And.intro V1 (And.intro V2 (And.intro U1 (And.intro D1 D0))))
  clear h1 h2 h3 g1 g2 g3 g4 V1 V2 U1 D1 D0
  have K2 := Lib.hid (kn_two (Nat.lt_of_lt_of_le H.out.1 (Nat.le_of_lt H.out.2.1)) H.out.2.1 H.out.2.2.1 H.out.2.2.2)
  have S1 := Lib.hid (wrap_s (lz_spec (Nat.lt_of_lt_of_le H.out.1 (Nat.le_of_lt H.out.2.1)) H.out.2.2.1).1)
  generalize vN y = V at *
  generalize uH hi lo y = U at *
  generalize top32 (uL lo y) = D1 at *
  generalize low32 (uL lo y) = D0 at *
  go_upto_block 0 with fail
  simp only [E7.out, E8.out]
  go_cut [15] from 16 (fun t15 w' => t15 = .int .u64 (qd U V D1 : Nat) ∧ w' = w)
  case first =>
    go_upto_region 17 with fail
    go_loop [15, 16] (fun t15 t16 => ∃ q r : Nat, t15 = .int .u64 (q : Int) ∧ t16 = .int .u64 (r : Int) ∧ Hid (KInv U V D1 q r)) (fun t15 _ => (intOf t15).toNat)
    case atStart => exact ⟨_, _, rfl, rfl, K0⟩
    case round =>
      obtain ⟨q, r, rfl, rfl, Hk⟩ := hrel
      clear K0
      have Hs := Lib.hid (w_sum Hk.out.2.2 (top32_lt KV.out.2.1))
      by_cases hq : 4294967296 ≤ q
      · have ht : decide ((4294967296 : Int) ≤ (q : Int)) = true := by simp; omega
        obtain ⟨d1, d2, d3⟩ := kn_dec Hk.out (by have := KV.out.1; omega) KV.out.2.2.1 KV.out.2.2.2.1 (.inl hq)
        have hp := w_pred d1 (kn_small Hk.out KV.out.1 (Nat.lt_trans KV.out.2.2.1 KV.out.2.1))
        have Hd := Lib.hid (And.intro d1 (And.intro d2 d3))
        clear hq d1 d2 d3
        by_cases hb : 4294967296 ≤ sumN r (top32 V)
        · have hs : decide ((4294967296 : Int) ≤ (sumN r (top32 V) : Int)) = true := by simp; omega
          have Hm := Lib.hid (kn_exit2 Hd.out.2.1 Hd.out.2.2 KV.out.2.2.1 hb)
          clear hb
          have hsum := Hs.out
          go_wp2_with fail
          go_meet
          case rel => exact ⟨by rw [← Hm.out]; rfl, rfl⟩
        · have hs : decide ((4294967296 : Int) ≤ (sumN r (top32 V) : Int)) = false := by simp; omega
          have Hb := Lib.hid hb
          clear hb
          have hsum := Hs.out
          go_wp2_with fail
          go_round
          case rel => exact ⟨_, _, rfl, rfl, Hd.out.2.1, Hd.out.2.2, Nat.lt_of_not_le Hb.out⟩
          case measure => have := Hd.out.1; simp [intOf, predN]; omega
      · have ht : decide ((4294967296 : Int) ≤ (q : Int)) = false := by simp; omega
        have h1 := w_mul (Nat.lt_of_not_le hq) (low32_lt V)
        have h2 := w_lin Hk.out.2.2 KV.out.2.2.2.1
        have Hq := Lib.hid hq
        clear hq
        by_cases hm : linN r D1 < mulN q (low32 V)
        · have hm' : decide (linN r D1 < mulN q (low32 V)) = true := by simpa using hm
          obtain ⟨d1, d2, d3⟩ := kn_dec Hk.out (by have := KV.out.1; omega) KV.out.2.2.1 KV.out.2.2.2.1 (.inr hm)
          have hp := w_pred d1 (kn_small Hk.out KV.out.1 (Nat.lt_trans KV.out.2.2.1 KV.out.2.1))
          have Hd := Lib.hid (And.intro d1 (And.intro d2 d3))
          clear hm d1 d2 d3
          by_cases hb : 4294967296 ≤ sumN r (top32 V)
          · have hs : decide ((4294967296 : Int) ≤ (sumN r (top32 V) : Int)) = true := by simp; omega
            have Hm := Lib.hid (kn_exit2 Hd.out.2.1 Hd.out.2.2 KV.out.2.2.1 hb)
            clear hb
            have hsum := Hs.out
            go_wp2_with fail
            go_meet
            case rel => exact ⟨by rw [← Hm.out]; rfl, rfl⟩
          · have hs : decide ((4294967296 : Int) ≤ (sumN r (top32 V) : Int)) = false := by simp; omega
            have Hb := Lib.hid hb
            clear hb
            have hsum := Hs.out
            go_wp2_with fail
            go_round
            case rel => exact ⟨_, _, rfl, rfl, Hd.out.2.1, Hd.out.2.2, Nat.lt_of_not_le Hb.out⟩
            case measure => have := Hd.out.1; simp [intOf, predN]; omega
        · have hm' : decide (linN r D1 < mulN q (low32 V)) = false := by simpa using hm
          have Hm := Lib.hid (kn_exit1 Hk.out (by have := KV.out.1; omega) (Nat.le_of_not_lt hm))
          clear hm
          go_wp2_with fail
          go_meet
          case rel => exact ⟨by rw [Hm.out], rfl⟩
  case rest =>
    obtain ⟨rfl, rfl⟩ := hcut
    have UR := Lib.hid (rd_lt (U := U) (V := V) (D := D1) (by have := KV.out.1; omega))
    have L0 := Lib.hid (kn_init (U := rd U V D1) KV.out.1 KV.out.2.1 KV.out.2.2.2.2)
    have F1 := Lib.hid (w_rest (U := U) (D := D1) (by have := KV.out.1; omega) KV.out.2.1)
    have F7 := Lib.hid (w_div (T := top32 V) (Nat.lt_trans UR.out KV.out.2.1))
    have F8 := Lib.hid (w_mod (T := top32 V) (Nat.lt_trans UR.out KV.out.2.1))
    go_upto_region 22 with fail
    simp only [F1.out]
    generalize rd U V D1 = R at *
    go_upto_block 2 with fail
    simp only [F7.out, F8.out]
    go_cut [16, 18] from 19 (fun _ t18 w' => t18 = .int .u64 (qd R V D0 : Nat) ∧ w' = wc)
    case first =>
      go_upto_region 24 with fail
      go_loop [18, 16] (fun t15 t16 => ∃ q r : Nat, t15 = .int .u64 (q : Int) ∧ t16 = .int .u64 (r : Int) ∧ Hid (KInv R V D0 q r)) (fun t15 _ => (intOf t15).toNat)
      case atStart => exact ⟨_, _, rfl, rfl, L0⟩
      case round =>
        obtain ⟨q, r, rfl, rfl, Hk⟩ := hrel
        clear L0
        have Hs := Lib.hid (w_sum Hk.out.2.2 (top32_lt KV.out.2.1))
        by_cases hq : 4294967296 ≤ q
        · have ht : decide ((4294967296 : Int) ≤ (q : Int)) = true := by simp; omega
          obtain ⟨d1, d2, d3⟩ := kn_dec Hk.out (by have := KV.out.1; omega) UR.out KV.out.2.2.2.2 (.inl hq)
          have hp := w_pred d1 (kn_small Hk.out KV.out.1 (Nat.lt_trans UR.out KV.out.2.1))
          have Hd := Lib.hid (And.intro d1 (And.intro d2 d3))
          clear hq d1 d2 d3
          by_cases hb : 4294967296 ≤ sumN r (top32 V)
          · have hs : decide ((4294967296 : Int) ≤ (sumN r (top32 V) : Int)) = true := by simp; omega
            have Hm := Lib.hid (kn_exit2 Hd.out.2.1 Hd.out.2.2 UR.out hb)
            clear hb
            have hsum := Hs.out
            go_wp2_with fail
            go_meet
            case rel => exact ⟨by rw [← Hm.out]; rfl, rfl⟩
          · have hs : decide ((4294967296 : Int) ≤ (sumN r (top32 V) : Int)) = false := by simp; omega
            have Hb := Lib.hid hb
            clear hb
            have hsum := Hs.out
            go_wp2_with fail
            go_round
            case rel => exact ⟨_, _, rfl, rfl, Hd.out.2.1, Hd.out.2.2, Nat.lt_of_not_le Hb.out⟩
            case measure => have := Hd.out.1; simp [intOf, predN]; omega
        · have ht : decide ((4294967296 : Int) ≤ (q : Int)) = false := by simp; omega
          have h1 := w_mul (Nat.lt_of_not_le hq) (low32_lt V)
          have h2 := w_lin Hk.out.2.2 KV.out.2.2.2.2
          have Hq := Lib.hid hq
          clear hq
          by_cases hm : linN r D0 < mulN q (low32 V)
          · have hm' : decide (linN r D0 < mulN q (low32 V)) = true := by simpa using hm
            obtain ⟨d1, d2, d3⟩ := kn_dec Hk.out (by have := KV.out.1; omega) UR.out KV.out.2.2.2.2 (.inr hm)
            have hp := w_pred d1 (kn_small Hk.out KV.out.1 (Nat.lt_trans UR.out KV.out.2.1))
            have Hd := Lib.hid (And.intro d1 (And.intro d2 d3))
            clear hm d1 d2 d3
            by_cases hb : 4294967296 ≤ sumN r (top32 V)
            · have hs : decide ((4294967296 : Int) ≤ (sumN r (top32 V) : Int)) = true := by simp; omega
              have Hm := Lib.hid (kn_exit2 Hd.out.2.1 Hd.out.2.2 UR.out hb)
              clear hb
              have hsum := Hs.out
              go_wp2_with fail
              go_meet
              case rel => exact ⟨by rw [← Hm.out]; rfl, rfl⟩
            · have hs : decide ((4294967296 : Int) ≤ (sumN r (top32 V) : Int)) = false := by simp; omega
              have Hb := Lib.hid hb
              clear hb
              have hsum := Hs.out
              go_wp2_with fail
              go_round
              case rel => exact ⟨_, _, rfl, rfl, Hd.out.2.1, Hd.out.2.2, Nat.lt_of_not_le Hb.out⟩
              case measure => have := Hd.out.1; simp [intOf, predN]; omega
          · have hm' : decide (linN r D0 < mulN q (low32 V)) = false := by simpa using hm
            have Hm := Lib.hid (kn_exit1 Hk.out (by have := KV.out.1; omega) (Nat.le_of_not_lt hm))
            clear hm
            go_wp2_with fail
            go_meet
            case rel => exact ⟨by rw [Hm.out], rfl⟩
    case rest =>
      obtain ⟨rfl, rfl⟩ := hcut
      have G1 := Lib.hid (w_quo (qd_lt KV.out.2.2.1 KV.out.2.2.2.1) (qd_lt UR.out KV.out.2.2.2.2))
      have G2 := Lib.hid (w_rest (U := R) (D := D0) (by have := KV.out.1; omega) KV.out.2.1)
      go_wp2
      simp only [G1.out, G2.out, S1.out]
      go_ret2
      refine ⟨?_, Below.refl _ _⟩
      rw [← K2.out.1, ← K2.out.2]
      show Ending.returned (.tuple #[.int .u64 ((qd U V D1 * 4294967296 + qd R V D0 : Nat) : Int), .int .u64 (((rd R V D0 : Nat) : Int) / 2 ^ lzN y)]) = _
      rw [cast_shr]

theorem div64_any (hi lo y : Nat) (hy : hi < y) (hy2 : y < 18446744073709551616) (hl : lo < 18446744073709551616) (w : World) :
    Calls Tryd.prog 51 #[.int .u64 (hi : Int), .int .u64 (lo : Int), .int .u64 (y : Int)] w fun e w' => e = .returned (.tuple #[.int .u64 ((hi * 18446744073709551616 + lo) / y : Nat), .int .u64 ((hi * 18446744073709551616 + lo) % y : Nat)]) ∧ Below w.heap.size w w' := by
  by_cases h : hi = 0
  · subst h
    rw [Nat.zero_mul, Nat.zero_add]
    exact div64_0 lo y (by omega) hl w
  · exact div64_n hi lo y (by omega) hy hy2 hl w
end Go.Proofs.YtfecnogmjfmghaaDoor
