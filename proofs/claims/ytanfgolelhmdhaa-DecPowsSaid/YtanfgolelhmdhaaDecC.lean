/- The contracts of dec.addProduct, dec.product: what each returns; the world below the call's own blocks stays as it was. -/
import Derived.Test.YtanfgolelhmdhaaDecA
import Derived.Test.YtanfgolelhmdhaaDecN
import Derived.Test.YtanfgolelhmdhaaShelf
import Derived.LoopN
namespace Go.Proofs.Ytanfgolelhmdhaa
set_option linter.unusedSimpArgs false
set_option linter.unusedVariables false
set_option linter.unnecessarySimpa false
open Go.RowKit

theorem mul64 (x y : Nat) (hx : x < 18446744073709551616) (hy : y < 18446744073709551616) (w : World) :
    Calls Try.prog 61 #[.int .u64 (x : Int), .int .u64 (y : Int)] w fun e w' => e = .returned (.tuple #[.int .u64 (mulH x y : Nat), .int .u64 (mulL x y : Nat)]) ∧ w = w' := by
  refine (Try.bits_Mul64 x y hx hy w).mono ?_
  rintro e w' ⟨rfl, rfl⟩
  exact ⟨rfl, rfl⟩

theorem addProduct_m (p q x y : Nat) (hp : p < 18446744073709551616) (hq : q < 18446744073709551616) (hx : x < 18446744073709551616) (hy : y < 18446744073709551616) (w : World) :
    Calls Try.prog 67 #[.int .u64 (p : Int), .int .u64 (q : Int), .int .u64 (x : Int), .int .u64 (y : Int)] w fun e w' => e = .returned (.tuple #[.int .u64 (apLo p q x y : Nat), .int .u64 (apHi p q x y : Nat)]) ∧ w = w' := by
  have e1 := Lib.hid (ap_lo p q x y)
  have e2 := Lib.hid (ap_hi hp hq hx hy)
  have C1 := Lib.hid (mul64 x y hx hy)
  clear hp hq hx hy
  have ha := fun (x y : Nat) w => add64 x y w
  go_enter Try.func67, Try.ntmps67
  go_wp2_with (go_at_call 61; refine (C1.out _).mono ?_; rintro e w' ⟨rfl, rfl⟩)
  simp only [e1.out, e2.out]
  go_ret2
  exact ⟨rfl, rfl⟩

set_option maxHeartbeats 1000000 in
set_option maxRecDepth 100000 in
theorem product_m (n n' : Bool) (m k : Nat) (hm : m < 340282366920938463463374607431768211456) (hk : k < 340282366920938463463374607431768211456) (w : World) :
    Calls Try.prog 54 #[MV n m, MV n' k] w fun e w' => e = .returned (QV (m * k)) ∧ Below w.heap.size w w' := by
  have bm := loN_lt m
  have bk := loN_lt k
  have am := hiN_lt hm
  have ak := hiN_lt hk
  have E0 := Lib.hid (prod_l0 hm hk)
  have E1 := Lib.hid (prod_l1 hm hk)
  have E2 := Lib.hid (prod_l2 hm hk)
  have E3 := Lib.hid (prod_l3 hm hk)
  have C1 := Lib.hid (addProduct_m 0 0 (loN m) (loN k) (by omega) (by omega) bm bk)
  have b1 := apHi_lt (p := 0) (q := 0) (by omega) (by omega) bm bk
  have C2 := Lib.hid (addProduct_m 0 (apHi 0 0 (loN m) (loN k)) (loN m) (hiN k) (by omega) b1 bm ak)
  have b2 := apLo_lt 0 (apHi 0 0 (loN m) (loN k)) (loN m) (hiN k)
  have b3 := apHi_lt (p := 0) (by omega) b1 bm ak
  have C3 := Lib.hid (addProduct_m _ 0 (hiN m) (loN k) b2 (by omega) am bk)
  have b4 := apHi_lt (q := 0) b2 (by omega) am bk
  have C4 := Lib.hid (addProduct_m _ _ (hiN m) (hiN k) b3 b4 am ak)
  clear bm bk am ak b1 b2 b3 b4 hm hk
  have i0 : ∀ (x y : Value) (w : World), (Instr.index 81 (.agg #[x, y]) (.int .i64 0)).run Try.prog w = .ok x w := fun _ _ _ => by kernel_rfl
  have i1 : ∀ (x y : Value) (w : World), (Instr.index 81 (.agg #[x, y]) (.int .i64 1)).run Try.prog w = .ok y w := fun _ _ _ => by kernel_rfl
  go_enter Try.func54, Try.ntmps54
  go_wp2
  refine wp_loop_rounds 3 ?_
  rw [rounds_succ]
  go_wp2
  refine wp_loop_rounds 3 ?_
  rw [rounds_succ]
  go_wp2_with (go_at_call 67; refine (C1.out _).mono ?_; rintro e w' ⟨rfl, rfl⟩)
  rw [rounds_succ]
  go_wp2_with (go_at_call 67; refine (C2.out _).mono ?_; rintro e w' ⟨rfl, rfl⟩)
  rw [rounds_succ]
  go_wp2
  rw [rounds_succ]
  go_wp2
  refine wp_loop_rounds 3 ?_
  rw [rounds_succ]
  go_wp2_with (go_at_call 67; refine (C3.out _).mono ?_; rintro e w' ⟨rfl, rfl⟩)
  rw [rounds_succ]
  go_wp2_with (go_at_call 67; refine (C4.out _).mono ?_; rintro e w' ⟨rfl, rfl⟩)
  rw [rounds_succ]
  go_wp2
  rw [rounds_succ]
  go_wp2
  simp only [E0.out, E1.out, E2.out, E3.out]
  refine bodyPost_ret (v := QV (m * k)) (by simp [results, Try.results54, go_sem, *]) rfl ⟨rfl, ?_⟩
  repeat (first | (with_reducible exact Below.refl _ _) | (with_reducible refine Below.drew ?_) | (refine Below.setCell ?_ (by first | exact Nat.le_refl _ | (simp; done) | (simp; omega) | omega) _) | (refine Below.alloc ?_ (by first | exact Nat.le_refl _ | (simp; done) | (simp; omega) | omega) _) | (refine Below.trans ?_ (Below.mono (by assumption) (by first | exact Nat.le_refl _ | (simp; done) | (simp; omega) | omega))))
end Go.Proofs.Ytanfgolelhmdhaa
