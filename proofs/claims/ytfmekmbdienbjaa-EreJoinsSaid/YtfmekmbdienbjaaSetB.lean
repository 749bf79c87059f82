/- The contracts of Has, Or, Not, Count, Range of charset: a set is a predicate. -/
import Derived.Test.YtfmekmbdienbjaaSetA
import Derived.Test.YtfmekmbdienbjaaByt
import Derived.Deep.Cut
import Derived.Deep.CutBlock
import Derived.LoopN
import Derived.Laws.Bits64b
namespace Go.Proofs.Ytfmekmbdienbjaa
set_option linter.unusedSimpArgs false
set_option linter.unusedVariables false
set_option linter.unnecessarySimpa false
open Go.RowKit

/-- The cells of a set. -/
abbrev setA (p : Nat → Bool) : Array Value := #[.int .u64 ((wd p 0 : Nat) : Int), .int .u64 ((wd p 1 : Nat) : Int), .int .u64 ((wd p 2 : Nat) : Int), .int .u64 ((wd p 3 : Nat) : Int)]
abbrev setV (p : Nat → Bool) : Value := .agg (setA p)

theorem cast_shr' (a s : Nat) : (a : Int) / 2 ^ s = ((a / 2 ^ s : Nat) : Int) := by push_cast; rfl
theorem has_bit {x r : Nat} (h : x < 18446744073709551616) : (bits BinOp.and IntKind.u64 ((x : Int) / 2 ^ r) 1 == 1) = decide (x / 2 ^ r % 2 = 1) := by
  rw [cast_shr', show (1 : Int) = ((1 : Nat) : Int) from rfl, bits_and_u64_nat _ _ (Nat.lt_of_le_of_lt (Nat.div_le_self _ _) h) (by decide), Nat.and_one_is_mod]
  generalize x / 2 ^ r % 2 = m
  by_cases h : m = 1
  · subst h; rfl
  · rw [decide_eq_false h, beq_eq_false_iff_ne]; omega
theorem setA_ext {p q : Nat → Bool} (h : ∀ x, x < 256 → p x = q x) : setA p = setA q := by
  unfold setA
  rw [wd_ext (i := 0) fun j hj => h _ (by omega), wd_ext (i := 1) fun j hj => h _ (by omega), wd_ext (i := 2) fun j hj => h _ (by omega), wd_ext (i := 3) fun j hj => h _ (by omega)]
theorem setA_get (p : Nat → Bool) {j : Nat} (h : j < 4) : (setA p)[j]? = some (.int .u64 ((wd p j : Nat) : Int)) := by
  rcases (by omega : j = 0 ∨ j = 1 ∨ j = 2 ∨ j = 3) with rfl | rfl | rfl | rfl <;> rfl
/-- One word of a set is another's. -/
theorem setA_set (p q : Nat → Bool) {j : Nat} (h : j < 4) : (setA p).setIfInBounds j (.int .u64 ((wd q j : Nat) : Int)) = setA (fun x => if x / 64 = j then q x else p x) := by
  have e : ∀ i, i ≠ j → wd (fun x => if x / 64 = j then q x else p x) i = wd p i := fun i hi => wd_ext fun k hk => if_neg (by omega)
  have e' : wd (fun x => if x / 64 = j then q x else p x) j = wd q j := wd_ext fun k hk => if_pos (by omega)
  rcases (by omega : j = 0 ∨ j = 1 ∨ j = 2 ∨ j = 3) with rfl | rfl | rfl | rfl
  · unfold setA; rw [e', e 1 (by decide), e 2 (by decide), e 3 (by decide)]; rfl
  · unfold setA; rw [e', e 0 (by decide), e 2 (by decide), e 3 (by decide)]; rfl
  · unfold setA; rw [e', e 0 (by decide), e 1 (by decide), e 3 (by decide)]; rfl
  · unfold setA; rw [e', e 0 (by decide), e 1 (by decide), e 2 (by decide)]; rfl

theorem wrapU {a : Int} (h0 : 0 ≤ a) (h : a < 18446744073709551616) : IntKind.u64.wrap a = a := by rw [IntKind.wrap_u64]; omega
set_option maxRecDepth 100000 in
set_option maxHeartbeats 4000000 in
theorem ones_u (x : Nat) (hx : x < 18446744073709551616) (w : World) :
    Calls Try.prog 14 #[.int .u64 (x : Int)] w fun e w' => e = .returned (.int .i64 ((cntP x.testBit 64 : Nat) : Int)) ∧ w = w' := by
  have ht := fun a b c u v t h1 h2 h3 h4 h5 h6 => ones64 x a b c u v t hx h1 h2 h3 h4 h5 h6
  have hm := cntP_le x.testBit 64
  generalize cntP x.testBit 64 = n at *
  obtain ⟨A1, hA1⟩ : ∃ y, y = x / 2 &&& 6148914691236517205 := ⟨_, rfl⟩
  obtain ⟨A2, hA2⟩ : ∃ y, y = x &&& 6148914691236517205 := ⟨_, rfl⟩
  have lA1 : A1 ≤ 6148914691236517205 := by rw [hA1]; exact Nat.and_le_right
  have lA2 : A2 ≤ 6148914691236517205 := by rw [hA2]; exact Nat.and_le_right
  have f1 : bits BinOp.and IntKind.u64 ((x : Int) / 2) 6148914691236517205 = (A1 : Int) := by
    rw [show (x : Int) / 2 = ((x / 2 : Nat) : Int) by omega, hA1]
    exact bits_and_u64_nat _ _ (by omega) (by decide)
  have f2 : bits BinOp.and IntKind.u64 (x : Int) 6148914691236517205 = (A2 : Int) := by
    rw [hA2]; exact bits_and_u64_nat _ _ (by omega) (by decide)
  obtain ⟨a, ha⟩ : ∃ y, y = A1 + A2 := ⟨_, rfl⟩
  have f3 : IntKind.u64.wrap ((A1 : Int) + (A2 : Int)) = (a : Int) := by rw [wrapU (by omega) (by omega)]; omega
  have la : a < 18446744073709551616 := by omega
  have ht1 := fun b c u v t h2 h3 h4 h5 h6 => ht a b c u v t (by rw [ha, hA1, hA2]) h2 h3 h4 h5 h6
  clear ht ha lA1 lA2 hA1 hA2
  obtain ⟨B1, hB1⟩ : ∃ y, y = a / 4 &&& 3689348814741910323 := ⟨_, rfl⟩
  obtain ⟨B2, hB2⟩ : ∃ y, y = a &&& 3689348814741910323 := ⟨_, rfl⟩
  have lB1 : B1 ≤ 3689348814741910323 := by rw [hB1]; exact Nat.and_le_right
  have lB2 : B2 ≤ 3689348814741910323 := by rw [hB2]; exact Nat.and_le_right
  have f4 : bits BinOp.and IntKind.u64 ((a : Int) / 4) 3689348814741910323 = (B1 : Int) := by
    rw [show (a : Int) / 4 = ((a / 4 : Nat) : Int) by omega, hB1]
    exact bits_and_u64_nat _ _ (by omega) (by decide)
  have f5 : bits BinOp.and IntKind.u64 (a : Int) 3689348814741910323 = (B2 : Int) := by
    rw [hB2]; exact bits_and_u64_nat _ _ (by omega) (by decide)
  obtain ⟨b, hb⟩ : ∃ y, y = B1 + B2 := ⟨_, rfl⟩
  have f6 : IntKind.u64.wrap ((B1 : Int) + (B2 : Int)) = (b : Int) := by rw [wrapU (by omega) (by omega)]; omega
  have lb : b ≤ 7378697629483820646 := by omega
  have ht2 := fun c u v t h3 h4 h5 h6 => ht1 b c u v t (by rw [hb, hB1, hB2]) h3 h4 h5 h6
  clear ht1 hb lB1 lB2 hB1 hB2
  obtain ⟨d, hd⟩ : ∃ y, y = b / 16 + b := ⟨_, rfl⟩
  have f7 : IntKind.u64.wrap ((b : Int) / 16 + (b : Int)) = (d : Int) := by rw [wrapU (by omega) (by omega)]; omega
  have ld : d < 18446744073709551616 := by omega
  obtain ⟨c, hc⟩ : ∃ y, y = d &&& 1085102592571150095 := ⟨_, rfl⟩
  have lc : c ≤ 1085102592571150095 := by rw [hc]; exact Nat.and_le_right
  have f8 : bits BinOp.and IntKind.u64 (d : Int) 1085102592571150095 = (c : Int) := by
    rw [hc]; exact bits_and_u64_nat _ _ ld (by decide)
  have ht3 := fun u v t h4 h5 h6 => ht2 c u v t (by rw [hc, hd]) h4 h5 h6
  clear ht2 hc hd
  obtain ⟨u, hu⟩ : ∃ y, y = c + c / 256 := ⟨_, rfl⟩
  obtain ⟨v, hv⟩ : ∃ y, y = u + u / 65536 := ⟨_, rfl⟩
  obtain ⟨t, he⟩ : ∃ y, y = v + v / 4294967296 := ⟨_, rfl⟩
  obtain ⟨e1, e2, e3, e4⟩ := ht3 u v t hu hv he
  clear ht3
  have f9 : IntKind.u64.wrap ((c : Int) + (c : Int) / 256) = (u : Int) := by rw [wrapU (by omega) (by omega)]; omega
  have f10 : IntKind.u64.wrap ((u : Int) + (u : Int) / 65536) = (v : Int) := by rw [wrapU (by omega) (by omega)]; omega
  have f11 : IntKind.u64.wrap ((v : Int) + (v : Int) / 4294967296) = (t : Int) := by rw [wrapU (by omega) (by omega)]; omega
  have f12 : IntKind.i64.wrap (t : Int) = (t : Int) := by rw [IntKind.wrap_i64]; omega
  have f13 : bits BinOp.and IntKind.i64 (t : Int) 127 = (n : Int) := by
    rw [show (127 : Int) = ((127 : Nat) : Int) from rfl, (bits_nat .i64 63 (by decide) (fun n h0 h1 => by rw [IntKind.wrap_i64]; omega) t 127 (by exact e4) (by decide)).1, show (127 : Nat) = 2 ^ 7 - 1 from rfl, Nat.and_two_pow_sub_one_eq_mod, show (2 : Nat) ^ 7 = 128 from rfl, e1]
  clear hu hv he
  go_enter Try.func14, Try.ntmps14
  go_wp2
  go_ret
  exact ⟨rfl, rfl⟩

/-- The first j words are those of another set. -/
def mixP (p q : Nat → Bool) (j : Nat) : Nat → Bool := fun x => if x / 64 < j then q x else p x
theorem mixP_0 (p q : Nat → Bool) : setA (mixP p q 0) = setA p := setA_ext fun x _ => if_neg (Nat.not_lt_zero _)
theorem mixP_4 (p q : Nat → Bool) : setA (mixP p q 4) = setA q := setA_ext fun x hx => if_pos (by omega)
theorem mixP_wd (p q : Nat → Bool) (j : Nat) : wd (mixP p q j) j = wd p j := wd_ext fun k hk => if_neg (by omega)
theorem mixP_set (p q : Nat → Bool) {j : Nat} (h : j < 4) : (setA (mixP p q j)).setIfInBounds j (.int .u64 ((wd q j : Nat) : Int)) = setA (mixP p q (j + 1)) := by
  rw [setA_set _ _ h]
  refine setA_ext fun x _ => ?_
  unfold mixP
  by_cases h1 : x / 64 = j
  · rw [if_pos h1, if_pos (by omega)]
  · rw [if_neg h1]
    by_cases h2 : x / 64 < j
    · rw [if_pos h2, if_pos (by omega)]
    · rw [if_neg h2, if_neg (by omega)]
set_option maxRecDepth 100000 in
set_option maxHeartbeats 4000000 in
theorem or_u (p q : Nat → Bool) (w : World) :
    Calls Try.prog 37 #[setV p, setV q] w fun e w' => e = .returned (setV (fun x => p x || q x)) ∧ Below w.heap.size w w' := by
  obtain ⟨r, hr⟩ : ∃ r : Nat → Bool, r = fun x => p x || q x := ⟨_, rfl⟩
  rw [← hr]
  have HO : Hid (∀ j, wd p j ||| wd q j = wd r j) := by intro j; rw [hr]; exact wd_or p q j
  clear hr
  go_enter Try.func37, Try.ntmps37
  go_upto_region 1 with fail
  have r0 : Row (w.alloc (.cells (setA p) 26)) w.heap.size 26 (setA p) := Row.new w _ _
  have r1 : Row ((w.alloc (.cells (setA p) 26)).alloc (.cells (setA q) 26)) (w.heap.size + 1) 26 (setA q) := by
    have := Row.new (w.alloc (.cells (setA p) 26)) 26 (setA q)
    simpa using this
  have r2 : Row (((w.alloc (.cells (setA p) 26)).alloc (.cells (setA q) 26)).alloc (.cells #[.int .u64 0, .int .u64 0, .int .u64 0, .int .u64 0] 26)) (w.heap.size + 1 + 1) 26 #[.int .u64 0, .int .u64 0, .int .u64 0, .int .u64 0] := by
    have := Row.new ((w.alloc (.cells (setA p) 26)).alloc (.cells (setA q) 26)) 26 #[.int .u64 0, .int .u64 0, .int .u64 0, .int .u64 0]
    simpa using this
  have r0' := (r0.alloc (.cells (setA q) 26)).alloc (.cells #[.int .u64 0, .int .u64 0, .int .u64 0, .int .u64 0] 26)
  have r1' := r1.alloc (.cells #[.int .u64 0, .int .u64 0, .int .u64 0, .int .u64 0] 26)
  have hB : Below w.heap.size w (((w.alloc (.cells (setA p) 26)).alloc (.cells (setA q) 26)).alloc (.cells #[.int .u64 0, .int .u64 0, .int .u64 0, .int .u64 0] 26)) := by repeat (first | (with_reducible exact Below.refl _ _) | (with_reducible refine Below.drew ?_) | (refine Below.setCell ?_ (by first | exact Nat.le_refl _ | (simp; done) | (simp; omega) | omega) _) | (refine Below.alloc ?_ (by first | exact Nat.le_refl _ | (simp; done) | (simp; omega) | omega) _) | (refine Below.trans ?_ (Below.mono (by assumption) (by first | exact Nat.le_refl _ | (simp; done) | (simp; omega) | omega))))
  have r0'' : Row (((w.alloc (.cells (setA p) 26)).alloc (.cells (setA q) 26)).alloc (.cells #[.int .u64 0, .int .u64 0, .int .u64 0, .int .u64 0] 26)) w.heap.size 26 (setA (mixP p r 0)) := by rw [mixP_0]; exact r0'
  have R := Lib.hid (And.intro r0'' (And.intro r1' (And.intro r2 hB)))
  clear r0 r1 r2 r0' r0'' r1' hB
  generalize (((w.alloc (.cells (setA p) 26)).alloc (.cells (setA q) 26)).alloc (.cells #[.int .u64 0, .int .u64 0, .int .u64 0, .int .u64 0] 26)) = w1 at *
  go_wp2
  go_loopw [6] (fun i wr => ∃ j : Nat, j ≤ 4 ∧ i = .int .i64 (j : Int) ∧ Row wr w.heap.size 26 (setA (mixP p r j)) ∧ Row wr (w.heap.size + 1) 26 (setA q) ∧ Row wr (w.heap.size + 1 + 1) 26 #[.int .u64 0, .int .u64 0, .int .u64 0, .int .u64 0] ∧ Below w.heap.size w wr) (fun i _ => 4 - (intOf i).toNat)
  case atStart => exact ⟨0, by omega, rfl, R.out.1, R.out.2.1, R.out.2.2.1, R.out.2.2.2⟩
  case round =>
    obtain ⟨j, hj, rfl, r0, r1, r2, hB⟩ := hrel
    by_cases h4 : j < 4
    · have k0 := (r0.cell j).trans (setA_get _ h4)
      have k1 := (r1.cell j).trans (setA_get _ h4)
      have f0 := r0.froz j
      rw [mixP_wd] at k0
      have hb : bits BinOp.or IntKind.u64 ((wd p j : Nat) : Int) ((wd q j : Nat) : Int) = ((wd r j : Nat) : Int) := by
        rw [bits_or_u64_nat _ _ (wd_lt _ _) (wd_lt _ _), HO.out]
      have hj1 : (j : Int) < 4 := by omega
      have hj0 : (0 : Int) ≤ (j : Int) := by omega
      have RR := Lib.hid (And.intro r0 (And.intro r1 (And.intro r2 hB)))
      clear r0 r1 r2 hB
      go_wp2
      go_region
      all_goals
        go_wp2
        go_roundw
        case rel =>
          obtain ⟨r0, r1, r2, hB⟩ := RR.out
          refine ⟨j + 1, by omega, by go_num, ?_, r1.far (by simp) _, r2.far (by simp; omega) _, ?_⟩
          · have := r0.set j (.int .u64 ((wd r j : Nat) : Int))
            rw [mixP_set _ _ h4] at this
            exact this
          · repeat (first | (with_reducible exact Below.refl _ _) | (with_reducible refine Below.drew ?_) | (refine Below.setCell ?_ (by first | exact Nat.le_refl _ | (simp; done) | (simp; omega) | omega) _) | (refine Below.alloc ?_ (by first | exact Nat.le_refl _ | (simp; done) | (simp; omega) | omega) _) | (refine Below.trans ?_ (Below.mono (by assumption) (by first | exact Nat.le_refl _ | (simp; done) | (simp; omega) | omega))))
        case measure => simp [intOf]; omega
    · obtain rfl : j = 4 := by omega
      rw [mixP_4] at r0
      have k0 := r0.cell 0
      have k1 := r0.cell 1
      have k2 := r0.cell 2
      have k3 := r0.cell 3
      have z0 := r2.cell 0
      have z1 := r2.cell 1
      have z2 := r2.cell 2
      have z3 := r2.cell 3
      have f0 := r2.froz 0
      have f1 := r2.froz 1
      have f2 := r2.froz 2
      have f3 := r2.froz 3
      have hj1 : ¬ ((4 : Nat) : Int) < 4 := by omega
      simp at k0 k1 k2 k3 z0 z1 z2 z3
      go_wp2
      refine bodyPost_ret (v := setV r) (by simp [results, Try.results37, go_sem, *]) rfl ⟨rfl, ?_⟩
      repeat (first | (with_reducible exact Below.refl _ _) | (with_reducible refine Below.drew ?_) | (refine Below.setCell ?_ (by first | exact Nat.le_refl _ | (simp; done) | (simp; omega) | omega) _) | (refine Below.alloc ?_ (by first | exact Nat.le_refl _ | (simp; done) | (simp; omega) | omega) _) | (refine Below.trans ?_ (Below.mono (by assumption) (by first | exact Nat.le_refl _ | (simp; done) | (simp; omega) | omega))))
end Go.Proofs.Ytfmekmbdienbjaa
