/- Strings as lists of bytes; the contracts of strings.TrimLeft and strings.TrimRight at "0". -/
import Derived.Test.YtfecnogmjfmghaaDoorNumF
namespace Go.Proofs.YtfecnogmjfmghaaDoor
set_option linter.unusedSimpArgs false
set_option linter.unusedVariables false
set_option linter.unnecessarySimpa false
open Go.RowKit

/-- The string of bytes. -/
def S8 (l : List UInt8) : ByteArray := ⟨l.toArray⟩
theorem S8_size (l : List UInt8) : (S8 l).size = l.length := by simp [S8, ByteArray.size]
theorem S8_list (l : List UInt8) : (S8 l).toList = l := ByteArray.toList_mk l
theorem S8_data (l : List UInt8) : (S8 l).data = l.toArray := rfl
theorem S8_inj {a b : List UInt8} (h : S8 a = S8 b) : a = b := by
  have := congrArg ByteArray.toList h
  rwa [S8_list, S8_list] at this
theorem S8_add (a b : List UInt8) : S8 a ++ S8 b = S8 (a ++ b) := ByteArray.mk_append_mk a b
theorem S8_extract (l : List UInt8) (i j : Nat) : (S8 l).extract i j = S8 ((l.drop i).take (j - i)) := by
  apply ByteArray.ext
  rw [ByteArray.data_extract, S8_data, S8_data, List.extract_toArray, List.extract_eq_take_drop]
theorem s8_len (l : List UInt8) (ty : TypeId) (w : World) : (Builtin.len_ #[9] ty #[.string (S8 l)]).run Tryd.prog w = .ok (.int .i64 (l.length : Int)) w := by
  rw [run_len_string w _ _ _ Tryd.underlying9, S8_size]; rfl
theorem s8_at (l : List UInt8) (i : Nat) (hi : i < l.length) (x : Int) (hx : x = (i : Int)) (w : World) : (Instr.index 9 (.string (S8 l)) (.int .i64 x)).run Tryd.prog w = .ok (bv (l.getD i 0)) w := by
  subst hx
  rw [run_index_string w _ _ _ _ Tryd.underlying9, dif_pos ⟨by omega, by rw [S8_size]; omega⟩]
  unfold bv
  congr 5
  rw [List.getD_eq_getElem?_getD, List.getElem?_eq_getElem hi]
  rfl
theorem s8_from (l : List UInt8) (i : Nat) (hi : i ≤ l.length) (x : Int) (hx : x = (i : Int)) (w : World) : (Instr.slice 9 (.string (S8 l)) (some (.int .i64 x)) none none).run Tryd.prog w = .ok (.string (S8 (l.drop i))) w := by
  subst hx
  rw [run_slice_string_l w _ _ Tryd.underlying9 _ _ (by omega) (by rw [S8_size]; omega), S8_extract, S8_size, Int.toNat_natCast, List.take_of_length_le (by rw [List.length_drop]; exact Nat.le_refl _)]
theorem s8_to (l : List UInt8) (i : Nat) (hi : i ≤ l.length) (x : Int) (hx : x = (i : Int)) (w : World) : (Instr.slice 9 (.string (S8 l)) none (some (.int .i64 x)) none).run Tryd.prog w = .ok (.string (S8 (l.take i))) w := by
  subst hx
  rw [run_slice_string_h w _ _ Tryd.underlying9 _ _ (by omega) (by rw [S8_size]; omega), S8_extract, Int.toNat_natCast, List.drop_zero, Nat.sub_zero]
theorem s8_add (a b : List UInt8) (h : a.length + b.length ≤ 1000000000000000) (w : World) : (binOp .add 9 (.string (S8 a)) (.string (S8 b))).run Tryd.prog w = .ok (.string (S8 (a ++ b))) w := by
  rw [show binOp .add 9 (.string (S8 a)) (.string (S8 b)) = Op.stringOp .add (S8 a) (S8 b) from rfl, run_string_add_sum w _ _ (by rw [S8_size, S8_size]; omega), S8_add]
def sizV : Value → Nat | .string s => s.size | _ => 0

theorem strL_u (l : List UInt8) (hl : l.length ≤ 281474976710656) (w : World) :
    Calls Tryd.prog 53 #[.string (S8 l), .int .u8 48] w fun e w' => e = .returned (.string (S8 (lead l))) ∧ w = w' := by
  go_enter Tryd.func53, Tryd.ntmps53
  go_wp2
  go_loop [0] (fun u => ∃ r : List UInt8, u = .string (S8 r) ∧ r.length ≤ 281474976710656 ∧ Hid (lead r = lead l)) (fun u => sizV u)
  case atStart => exact ⟨l, rfl, hl, rfl⟩
  case round =>
    obtain ⟨r, rfl, hrl, hr⟩ := hrel
    cases r with
    | nil =>
      have e0 : Hid (lead l = []) := by show _ = _; rw [← hr.out]; rfl
      have h1 := fun ty w => s8_len [] ty w
      have t0 : decide ((0 : Int) < (([] : List UInt8).length : Int)) = false := by simp
      clear hr
      go_wp2
      go_ret
      exact ⟨by rw [e0.out]; rfl, rfl⟩
    | cons x r =>
      have h1 := fun ty w => s8_len (x :: r) ty w
      have h2 := fun w => s8_at (x :: r) 0 (by simp) 0 rfl w
      have h3 := fun w => s8_from (x :: r) 1 (by simp) 1 (by rfl) w
      have hd : (x :: r).drop 1 = r := rfl
      have hg : (x :: r).getD 0 0 = x := rfl
      have hln : (x :: r).length = r.length + 1 := rfl
      rw [hd] at h3
      rw [hg] at h2
      rw [hln] at h1 hrl
      unfold bv at h2
      have hz : Hid ((S8 r).size < (S8 (x :: r)).size) := by show _ < _; simp [S8_size]
      have t0 : decide ((0 : Int) < ((r.length + 1 : Nat) : Int)) = true := decide_eq_true (by omega)
      have t00 : (0 : Int) < ((r.length + 1 : Nat) : Int) := by omega
      clear hd hg hln
      by_cases h48 : x.toNat = 48
      · have hr' : Hid (lead r = lead l) := by show _ = _; rw [← hr.out, lead_cons48 h48]
        have t1 : ((x.toNat : Int) == 48) = true := by rw [h48]; rfl
        clear hr h48
        generalize x.toNat = n at *
        generalize S8 (x :: r) = sx at *
        go_wp2
        go_round
        case rel => exact ⟨r, rfl, by omega, hr'⟩
        case measure => exact hz.out
      · have e1 : Hid (lead l = x :: r) := by show _ = _; rw [← hr.out, lead_cons h48]
        have t1 : ((x.toNat : Int) == 48) = false := by rw [beq_eq_false_iff_ne]; omega
        clear hr h48 hz
        have HE : Hid (S8 (lead l) = S8 (x :: r)) := by show _ = _; rw [e1.out]
        clear e1
        generalize x.toNat = n at *
        generalize S8 (x :: r) = sx at *
        go_wp2
        go_ret
        exact ⟨by rw [HE.out]; rfl, rfl⟩

set_option maxRecDepth 100000 in
theorem trimL_u (l : List UInt8) (hl : l.length ≤ 281474976710656) (w : World) :
    Calls Tryd.prog 37 #[.string (S8 l), .string ⟨#[48]⟩] w fun e w' => e = .returned (.string (S8 (lead l))) ∧ w = w' := by
  have C := Lib.hid (strL_u l hl)
  by_cases hn : l = []
  · have t0 : (S8 l).toList.isEmpty = true := by rw [S8_list, hn]; rfl
    have t1 : (S8 l).toList = [] := by rw [S8_list, hn]
    have HE : Hid (S8 (lead l) = S8 l) := by show _ = _; rw [hn]; rfl
    clear hn C
    generalize S8 l = sx at *
    go_enter Tryd.func37, Tryd.ntmps37
    go_wp2
    go_ret
    exact ⟨by rw [HE.out]; rfl, rfl⟩
  · have t0 : (S8 l).toList.isEmpty = false := by rw [S8_list]; simpa using hn
    have t1 : ¬ (S8 l).toList = [] := by rw [S8_list]; exact hn
    clear hn
    generalize S8 l = sx at *
    go_enter Tryd.func37, Tryd.ntmps37
    go_wp2_with (go_at_call 53; refine (C.out _).mono ?_; rintro e w' ⟨rfl, rfl⟩)
    go_ret
    exact ⟨rfl, rfl⟩

/-- Zeros behind taken away. -/
def trail (l : List UInt8) : List UInt8 := (lead l.reverse).reverse
theorem trail_48 {x : UInt8} (h : x.toNat = 48) (l : List UInt8) : trail (l ++ [x]) = trail l := by
  unfold trail; rw [List.reverse_append]; show (lead (x :: l.reverse)).reverse = _; rw [lead_cons48 h]
theorem trail_no {x : UInt8} (h : x.toNat ≠ 48) (l : List UInt8) : trail (l ++ [x]) = l ++ [x] := by
  unfold trail; rw [List.reverse_append]; show (lead (x :: l.reverse)).reverse = _; rw [lead_cons h]; simp
theorem concat_ex (l : List UInt8) (h : l ≠ []) : ∃ r x, l = r ++ [x] := ⟨l.dropLast, l.getLast h, (List.dropLast_concat_getLast h).symm⟩

theorem strR_u (l : List UInt8) (hl : l.length ≤ 281474976710656) (w : World) :
    Calls Tryd.prog 57 #[.string (S8 l), .int .u8 48] w fun e w' => e = .returned (.string (S8 (trail l))) ∧ w = w' := by
  go_enter Tryd.func57, Tryd.ntmps57
  go_wp2
  go_loop [0] (fun u => ∃ r : List UInt8, u = .string (S8 r) ∧ r.length ≤ 281474976710656 ∧ Hid (trail r = trail l)) (fun u => sizV u)
  case atStart => exact ⟨l, rfl, hl, rfl⟩
  case round =>
    obtain ⟨r, rfl, hrl, hr⟩ := hrel
    by_cases hn : r = []
    · subst hn
      have e0 : Hid (trail l = []) := by show _ = _; rw [← hr.out]; rfl
      have h1 := fun ty w => s8_len [] ty w
      have t0 : decide ((0 : Int) < (([] : List UInt8).length : Int)) = false := by simp
      clear hr
      go_wp2
      go_ret
      exact ⟨by rw [e0.out]; rfl, rfl⟩
    · obtain ⟨r, x, rfl⟩ := concat_ex r hn
      have hln : (r ++ [x]).length = r.length + 1 := by simp
      have h1 := fun ty w => s8_len (r ++ [x]) ty w
      have h2 := fun w => s8_at (r ++ [x]) r.length (by rw [hln]; omega) (r.length : Int) rfl w
      have h3 := fun w => s8_to (r ++ [x]) r.length (by rw [hln]; omega) (r.length : Int) rfl w
      have hd : (r ++ [x]).take r.length = r := List.take_left' rfl
      have hg : (r ++ [x]).getD r.length 0 = x := by simp
      rw [hd] at h3
      rw [hg] at h2
      rw [hln] at h1 hrl
      unfold bv at h2
      have hz : Hid ((S8 r).size < (S8 (r ++ [x])).size) := by show _ < _; simp [S8_size]
      have t0 : decide ((0 : Int) < ((r.length + 1 : Nat) : Int)) = true := decide_eq_true (by omega)
      have t00 : (0 : Int) < ((r.length + 1 : Nat) : Int) := by omega
      clear hd hg hln hn
      by_cases h48 : x.toNat = 48
      · have hr' : Hid (trail r = trail l) := by show _ = _; rw [← hr.out, trail_48 h48]
        have t1 : ((x.toNat : Int) == 48) = true := by rw [h48]; rfl
        clear hr h48
        generalize x.toNat = n at *
        generalize S8 (r ++ [x]) = sx at *
        go_wp2
        go_round
        case rel => exact ⟨r, rfl, by omega, hr'⟩
        case measure => exact hz.out
      · have e1 : Hid (trail l = r ++ [x]) := by show _ = _; rw [← hr.out, trail_no h48]
        have t1 : ((x.toNat : Int) == 48) = false := by rw [beq_eq_false_iff_ne]; omega
        clear hr h48 hz
        have HE : Hid (S8 (trail l) = S8 (r ++ [x])) := by show _ = _; rw [e1.out]
        clear e1
        generalize x.toNat = n at *
        generalize S8 (r ++ [x]) = sx at *
        go_wp2
        go_ret
        exact ⟨by rw [HE.out]; rfl, rfl⟩

set_option maxRecDepth 100000 in
theorem trimR_u (l : List UInt8) (hl : l.length ≤ 281474976710656) (w : World) :
    Calls Tryd.prog 38 #[.string (S8 l), .string ⟨#[48]⟩] w fun e w' => e = .returned (.string (S8 (trail l))) ∧ w = w' := by
  have C := Lib.hid (strR_u l hl)
  by_cases hn : l = []
  · have t0 : (S8 l).toList.isEmpty = true := by rw [S8_list, hn]; rfl
    have t1 : (S8 l).toList = [] := by rw [S8_list, hn]
    have HE : Hid (S8 (trail l) = S8 l) := by show _ = _; rw [hn]; rfl
    clear hn C
    generalize S8 l = sx at *
    go_enter Tryd.func38, Tryd.ntmps38
    go_wp2
    go_ret
    exact ⟨by rw [HE.out]; rfl, rfl⟩
  · have t0 : (S8 l).toList.isEmpty = false := by rw [S8_list]; simpa using hn
    have t1 : ¬ (S8 l).toList = [] := by rw [S8_list]; exact hn
    clear hn
    generalize S8 l = sx at *
    go_enter Tryd.func38, Tryd.ntmps38
    go_wp2_with (go_at_call 57; refine (C.out _).mono ?_; rintro e w' ⟨rfl, rfl⟩)
    go_ret
    exact ⟨rfl, rfl⟩
end Go.Proofs.YtfecnogmjfmghaaDoor
