/- The contracts of the small functions of package dec: what each returns; the world below the call's own blocks stays as it was. -/
import Derived.Test.YtfecnogmjfmghaaDoorRows
import Derived.Test.YtfecnogmjfmghaaDoorDecM
import Derived.WalkKit
import Derived.WalkSpells
import Derived.WalkLawsBesides
import Derived.Lib.Hide
namespace Go.Proofs.YtfecnogmjfmghaaDoor
open Go.RowKit

/-! ## '==' and '!=' on numbers -/
theorem eql_dec (n n' : Bool) (a b a' b' : Int) (w : World) :
    (binOp .eql 26 (.agg #[.bool n, .int .u64 a, .int .u64 b]) (.agg #[.bool n', .int .u64 a', .int .u64 b'])).run Tryd.prog w = .ok (.bool (n == n' && (a == a' && b == b'))) w := by
  go_simp
  by_cases h : n = n' <;> by_cases ha : a = a' <;> by_cases hb : b = b' <;> simp [h, ha, hb]
theorem neq_dec (n n' : Bool) (a b a' b' : Int) (w : World) :
    (binOp .neq 26 (.agg #[.bool n, .int .u64 a, .int .u64 b]) (.agg #[.bool n', .int .u64 a', .int .u64 b'])).run Tryd.prog w = .ok (.bool (!(n == n' && (a == a' && b == b')))) w := by
  go_simp
  by_cases h : n = n' <;> by_cases ha : a = a' <;> by_cases hb : b = b' <;> simp [h, ha, hb]
theorem eql_mm (n n' : Bool) (m m' : Nat) (w : World) : (binOp .eql 26 (MV n m) (MV n' m')).run Tryd.prog w = .ok (.bool (eqM n m n' m')) w := by rw [eql_dec, eqM_limbs]
theorem neq_mm (n n' : Bool) (m m' : Nat) (w : World) : (binOp .neq 26 (MV n m) (MV n' m')).run Tryd.prog w = .ok (.bool (!eqM n m n' m')) w := by rw [neq_dec, eqM_limbs]
theorem eql_m0 (n n' : Bool) (m : Nat) (w : World) : (binOp .eql 26 (MV n m) (.agg #[.bool n', .int .u64 0, .int .u64 0])).run Tryd.prog w = .ok (.bool (eqM n m n' 0)) w := eql_mm n n' m 0 w
theorem neq_m0 (n n' : Bool) (m : Nat) (w : World) : (binOp .neq 26 (MV n m) (.agg #[.bool n', .int .u64 0, .int .u64 0])).run Tryd.prog w = .ok (.bool (!eqM n m n' 0)) w := neq_mm n n' m 0 w

theorem below_m (an bn : Bool) (m k : Nat) (w : World) :
    Calls Tryd.prog 32 #[MV an m, MV bn k] w fun e w' => e = .returned (.bool (decide (m < k))) ∧ Below w.heap.size w w' := by
  have Hb := Lib.hid (below_eq m k)
  by_cases h : hiN m = hiN k
  · have hb : ((hiN m : Int) != (hiN k : Int)) = false := by simp [h]
    have Hh := Lib.hid h; clear h
    go_enter Tryd.func32, Tryd.ntmps32
    go_wp2
    go_ret
    refine ⟨ret_bool ?_, ((Below.refl _ _).alloc (Nat.le_refl _) _).alloc (by simp) _⟩
    rw [← Hb.out]; have := Hh.out;  rw [decide_eq_decide]; omega
  · have hb : ((hiN m : Int) != (hiN k : Int)) = true := by simp; omega
    have Hh := Lib.hid h; clear h
    go_enter Tryd.func32, Tryd.ntmps32
    go_wp2
    go_ret
    refine ⟨ret_bool ?_, ((Below.refl _ _).alloc (Nat.le_refl _) _).alloc (by simp) _⟩
    rw [← Hb.out]; have := Hh.out;  rw [decide_eq_decide]; omega

theorem size_m (n : Bool) (m : Nat) (w : World) :
    Calls Tryd.prog 48 #[MV n m] w fun e w' => e = .returned (MV false m) ∧ Below w.heap.size w w' := by
  go_enter Tryd.func48, Tryd.ntmps48
  go_wp2
  exact bodyPost_ret (v := MV false m) (by simp [results, Tryd.results48, go_sem]) rfl ⟨rfl, ((Below.refl _ _).alloc (Nat.le_refl _) _).alloc (by simp) _⟩

set_option maxRecDepth 100000 in
theorem add64 (x y : Nat) (w : World) :
    (callFunc 46 #[.int .u64 x, .int .u64 y, .int .u64 0]).run Tryd.prog w =
      .ok (.value (.tuple #[.int .u64 (addS x y 0 : Nat), .int .u64 (addC x y 0 : Nat)])) w := by
  rw [run_callFunc_extern (P := Tryd.prog) (f := 46) (fn := Tryd.f46) rfl (by kernel_rfl) (by kernel_rfl) (by kernel_rfl) (e := add64Entry) (by kernel_rfl), run_add64 x y 0 (by omega) (by omega) (by omega) (by omega)]
  simp only [Result.andThen]
  unfold addS addC
  congr 5 <;> omega

def sub64Entry : Array Value → Sem Value := fun args => do
  let (x, y, b) ← Extern.MathBitsCarry.three "Sub64" args
  pure (Extern.MathBitsCarry.pair ((x + Extern.MathBitsCarry.m64 - y - b) % Extern.MathBitsCarry.m64) (if x < y + b then 1 else 0))

theorem run_sub64_0 (x y : Nat) (w : World) :
    (sub64Entry #[.int .u64 x, .int .u64 y, .int .u64 0]).run Tryd.prog w =
      .ok (.tuple #[.int .u64 (subS x y 0 : Nat), .int .u64 (subB x y 0 : Nat)]) w := rfl

set_option maxRecDepth 100000 in
theorem sub64 (x y : Nat) (w : World) :
    (callFunc 79 #[.int .u64 x, .int .u64 y, .int .u64 0]).run Tryd.prog w =
      .ok (.value (.tuple #[.int .u64 (subS x y 0 : Nat), .int .u64 (subB x y 0 : Nat)])) w := by
  rw [run_callFunc_extern (P := Tryd.prog) (f := 79) (fn := Tryd.f79) rfl (by kernel_rfl) (by kernel_rfl) (by kernel_rfl) (e := sub64Entry) (by kernel_rfl), run_sub64_0 x y]
  simp only [Result.andThen]

theorem minus_m (an bn : Bool) (m k : Nat) (h : k ≤ m) (hm : m < 340282366920938463463374607431768211456) (w : World) :
    Calls Tryd.prog 71 #[MV an m, MV bn k] w fun e w' => e = .returned (MV false (m - k)) ∧ Below w.heap.size w w' := by
  have e1 := Lib.hid (minus_lo h)
  have e2 := Lib.hid (minus_hi h hm)
  clear h hm
  have ha := fun w => sub64 (loN m) (loN k) w
  go_enter Tryd.func71, Tryd.ntmps71
  go_wp2
  simp only [e1.out, e2.out]
  exact bodyPost_ret (v := MV false (m - k)) (by simp [results, Tryd.results71, go_sem]) rfl ⟨rfl, (((Below.refl _ _).alloc (Nat.le_refl _) _).alloc (by simp) _).alloc (by simp; omega) _⟩

theorem below_top (n : Bool) (m : Nat) (w : World) :
    Calls Tryd.prog 32 #[MV n m, .agg #[.bool false, .int .u64 54210108624275221, .int .u64 12919594847110692864]] w fun e w' => e = .returned (.bool (decide (m < topN))) ∧ Below w.heap.size w w' := by
  rw [← top_hi, ← top_lo]
  exact below_m n false m topN w

theorem good_m (n : Bool) (m : Nat) (w : World) :
    Calls Tryd.prog 15 #[MV n m] w fun e w' => e = .returned (.bool (goodB n m)) ∧ Below w.heap.size w w' := by
  have he := neq_m0 n true m
  have Hg : Hid (goodB n m = (decide (m < topN) && !eqM n m true 0)) := by cases n <;> rfl
  by_cases h : m < topN
  all_goals
    first | have hd : decide (m < topN) = true := (by simpa using h) | have hd : decide (m < topN) = false := (by simpa using h)
    have Hh := Lib.hid h; clear h
    go_enter Tryd.func15, Tryd.ntmps15
    go_wp2_with (go_at_call 32; refine (below_top _ _ _).mono ?_; rintro e w' ⟨rfl, hb⟩; obtain ⟨hc, hf⟩ := bcell hb)
    go_ret
    refine ⟨ret_bool ?_, ((Below.refl _ _).alloc (Nat.le_refl _) _).trans (hb.mono (by simp))⟩
    rw [Hg.out, hd]; rfl

theorem widen_m (n : Bool) (m : Nat) (h : m < 340282366920938463463374607431768211456) (w : World) :
    Calls Tryd.prog 42 #[MV n m] w fun e w' => e = .returned (QV m) ∧ Below w.heap.size w w' := by
  have e1 := Lib.hid (l1_hi h)
  have e2 := Lib.hid (l2_0 h)
  have e3 := Lib.hid (l3_0 h)
  clear h
  go_enter Tryd.func42, Tryd.ntmps42
  go_wp2
  exact bodyPost_ret (v := LV (loN m) (hiN m) 0 0) (by simp [results, Tryd.results42, go_sem]) rfl ⟨by simp only [QV, LV, e1.out, e2.out, e3.out]; rfl, ((Below.refl _ _).alloc (Nat.le_refl _) _).alloc (by simp) _⟩

theorem signed_m (m : Nat) (neg : Bool) (w : World) :
    Calls Tryd.prog 47 #[MV false m, .bool neg] w fun e w' => e = .returned (MV (signB neg m) m) ∧ Below w.heap.size w w' := by
  have he := neq_m0 false false m
  have hs : Hid (∀ neg, signB neg m = (neg && !eqM false m false 0)) := fun _ => rfl
  cases neg
  all_goals
    go_enter Tryd.func47, Tryd.ntmps47
    go_wp2
    first
    | exact bodyPost_ret (v := MV false m) (by simp [results, Tryd.results47, go_sem]) rfl ⟨rfl, ((Below.refl _ _).alloc (Nat.le_refl _) _).alloc (by simp) _⟩
    | exact bodyPost_ret (v := MV (!eqM false m false 0) m) (by simp [results, Tryd.results47, go_sem]) rfl ⟨rfl, ((Below.refl _ _).alloc (Nat.le_refl _) _).alloc (by simp) _⟩

end Go.Proofs.YtfecnogmjfmghaaDoor
