/- The contracts of cut, and of slices of bytes. -/
import Derived.Test.YtfecnogmjfmghaaDoorNumD
import Derived.Test.YtfecnogmjfmghaaDoorLin
import Derived.Test.YtfecnogmjfmghaaDoorDecA
namespace Go.Proofs.YtfecnogmjfmghaaDoor
set_option linter.unusedSimpArgs false
set_option linter.unusedVariables false
set_option linter.unnecessarySimpa false
open Go.RowKit

/-- b[i:j]. -/
def subV (p : Option Addr) (c i j : Nat) : Value := .slice (if c = i then p else p.map (fun a => a.add i)) (j - i) (c - i)
theorem run_sub (p : Option Addr) (n c i j : Nat) (hi : i ≤ j) (hj : j ≤ c) (w : World) :
    (Instr.slice 22 (.slice p n c) (some (.int .i64 (i : Int))) (some (.int .i64 (j : Int))) none).run Tryd.prog w = .ok (subV p c i j) w := by
  have ht' : Tryd.prog.underlying 22 = some (.slice (Tryd.prog.elem 22)) := by kernel_rfl
  have hz : ∀ w, (Go.sizeOf (Tryd.prog.elem 22)).run Tryd.prog w = .ok 1 w := fun w => by kernel_rfl
  rw [run_slice_lh w 22 _ _ _ ht' .i64 .i64 _ _ (by omega) (by omega) (by omega), hz]
  simp [Result.andThen, sliced, subV]
theorem run_sub_to (p : Option Addr) (n c j : Nat) (hj : j ≤ c) (w : World) :
    (Instr.slice 22 (.slice p n c) none (some (.int .i64 (j : Int))) none).run Tryd.prog w = .ok (subV p c 0 j) w := by
  have ht' : Tryd.prog.underlying 22 = some (.slice (Tryd.prog.elem 22)) := by kernel_rfl
  have hz : ∀ w, (Go.sizeOf (Tryd.prog.elem 22)).run Tryd.prog w = .ok 1 w := fun w => by kernel_rfl
  rw [run_slice_h w 22 _ _ _ ht' .i64 _ (by omega) (by omega), hz]
  simp [Result.andThen, sliced, subV]
theorem run_sub_from (p : Option Addr) (n c i : Nat) (hi : i ≤ n) (w : World) :
    (Instr.slice 22 (.slice p n c) (some (.int .i64 (i : Int))) none none).run Tryd.prog w = .ok (subV p c i n) w := by
  have ht' : Tryd.prog.underlying 22 = some (.slice (Tryd.prog.elem 22)) := by kernel_rfl
  have hz : ∀ w, (Go.sizeOf (Tryd.prog.elem 22)).run Tryd.prog w = .ok 1 w := fun w => by kernel_rfl
  rw [run_slice_l w 22 _ _ _ ht' .i64 _ (by omega) (by omega), hz]
  simp [Result.andThen, sliced, subV]
theorem getD_drop_take (l : List UInt8) {i j k : Nat} (hk : k < j - i) (hj : j ≤ l.length) : ((l.drop i).take (j - i)).getD k 0 = l.getD (i + k) 0 := by
  rw [List.getD_eq_getElem?_getD, List.getD_eq_getElem?_getD, List.getElem?_take_of_lt hk, List.getElem?_drop]
theorem subV_bs {w : World} {p : Option Addr} {c : Nat} {l : List UInt8} (h : U8s w p l) (hlc : l.length ≤ c) (hc : c ≤ maxLen) {i j : Nat} (hi : i ≤ j) (hj : j ≤ l.length) :
    BS w (subV p c i j) ((l.drop i).take (j - i)) := by
  have hlen : ((l.drop i).take (j - i)).length = j - i := by rw [List.length_take, List.length_drop]; omega
  refine ⟨_, c - i, by rw [hlen]; rfl, by omega, by omega, fun hn => ?_⟩
  have hij : i < j := by
    rcases Nat.lt_or_ge i j with h1 | h1
    · exact h1
    · exact absurd (List.eq_nil_of_length_eq_zero (by rw [hlen]; omega)) hn
  obtain ⟨b, o, rfl, hb, hcs⟩ := h (by rintro rfl; simp at hj; omega)
  refine ⟨b, o + i, ?_, hb, fun k hk => ?_⟩
  · rw [if_neg (by omega)]; simp [add_lit']
  · rw [hlen] at hk
    rw [getD_drop_take l hk hj, Nat.add_assoc]
    exact hcs (i + k) (by omega)

set_option maxRecDepth 100000 in
set_option maxHeartbeats 4000000 in
theorem cut_u (t : Shp) (k : Nat) (hk : k ≤ 4) (p : Option Addr) (n c : Nat) (ht : t.sum ≤ n) (hn : n ≤ 281474976710656) (hnc : n ≤ c) (w : World) :
    Calls Tryd.prog 26 #[shpV t, .slice p n c, .int .i64 (k : Int)] w fun e w' => e = .returned (subV p c (t.pre k) (t.pre (k + 1))) ∧ Below w.heap.size w w' := by
  have hle := Shp.pre_succ t (k := k) (by omega)
  have hle2 := Shp.pre_le t (k + 1)
  have C1 : Hid (∀ w, Calls Tryd.prog 24 #[shpV t, .int .i64 (k : Int)] w fun e w' => e = .returned (.int .i64 ((t.pre k : Nat) : Int)) ∧ Below w.heap.size w w') := begin_u t k (by omega) (by omega)
  have C2 : Hid (∀ w, Calls Tryd.prog 24 #[shpV t, .int .i64 ((k : Int) + 1)] w fun e w' => e = .returned (.int .i64 ((t.pre (k + 1) : Nat) : Int)) ∧ Below w.heap.size w w') := by
    intro w
    have := begin_u t (k + 1) (by omega) (by omega) w
    rwa [show (((k + 1 : Nat)) : Int) = (k : Int) + 1 by omega] at this
  have hS : ∀ w, (Instr.slice 22 (.slice p n c) (some (.int .i64 ((t.pre k : Nat) : Int))) (some (.int .i64 ((t.pre (k + 1) : Nat) : Int))) none).run Tryd.prog w = .ok (subV p c (t.pre k) (t.pre (k + 1))) w := run_sub p n c _ _ (by omega) (by omega)
  have hk' : (k : Int) ≤ 4 := by omega
  have hk0 : (0 : Int) ≤ (k : Int) := by omega
  have hw : IntKind.i64.wrap ((k : Int) + 1) = (k : Int) + 1 := by simp only [IntKind.wrap_i64]; omega
  clear hle hle2
  generalize t.pre (k + 1) = y at *
  generalize t.pre k = x at *
  go_enter Tryd.func26, Tryd.ntmps26
  go_upto_region 1 with fail
  have k0 : (w.alloc (.cells (shpA t) 53)).cell? ⟨w.heap.size, 0, none⟩ = some (.int .i64 (t.b : Int)) := by go_simp
  have k1 : (w.alloc (.cells (shpA t) 53)).cell? ⟨w.heap.size, 1, none⟩ = some (.int .i64 (t.s : Int)) := by go_simp
  have k2 : (w.alloc (.cells (shpA t) 53)).cell? ⟨w.heap.size, 2, none⟩ = some (.int .i64 (t.w : Int)) := by go_simp
  have k3 : (w.alloc (.cells (shpA t) 53)).cell? ⟨w.heap.size, 3, none⟩ = some (.int .i64 (t.p : Int)) := by go_simp
  have k4 : (w.alloc (.cells (shpA t) 53)).cell? ⟨w.heap.size, 4, none⟩ = some (.int .i64 (t.f : Int)) := by go_simp
  have hBw : Below w.heap.size w (w.alloc (.cells (shpA t) 53)) := by repeat (first | (with_reducible exact Below.refl _ _) | (with_reducible refine Below.drew ?_) | (refine Below.setCell ?_ (by first | exact Nat.le_refl _ | (simp; done) | (simp; omega) | omega) _) | (refine Below.alloc ?_ (by first | exact Nat.le_refl _ | (simp; done) | (simp; omega) | omega) _) | (refine Below.trans ?_ (Below.mono (by assumption) (by first | exact Nat.le_refl _ | (simp; done) | (simp; omega) | omega))))
  have hz : w.heap.size < (w.alloc (.cells (shpA t) 53)).heap.size := by simp
  generalize w.alloc (.cells (shpA t) 53) = w1 at *
  refine wp_region_keep (t := fun j => j) (al := fun _ => false) (loud := fun _ => false)
    (R := fun j v u w' => match j with
      | 0 => v = .slice p n c
      | 1 => v = shpV t
      | 2 => v = .int .i64 (k : Int)
      | 3 => v = .int .i64 (x : Int)
      | 4 => v = shpV t
      | 5 => v = .int .i64 (k : Int)
      | 6 => v = .int .i64 ((k : Int) + 1)
      | 7 => v = .int .i64 (y : Int)
      | 8 => v = subV p c x y
      | 9 => v = subV p c x y
      | _ => True) (by kernel_rfl) (by kernel_rfl) (by kernel_rfl) ?_ ?_ ?_ ?_
  · intro j v u w1_ w2_ h_ hF_ hB_
    (try dsimp only at h_ ⊢)
    split at h_ <;> first | exact h_ | exact NewR.on h_ hB_ | exact HasR.on h_ hB_ | exact IsNum.on h_ hB_ | exact HasNum.on h_ hB_ | exact RHeld.on h_ hB_ | trivial
  · intro j v u w1_ h1_ h_
    cases h1_
  · intro vs
    simp only [putAll, Act.put, List.setIfInBounds_toArray, List.set_cons_zero, List.set_cons_succ, Nat.zero_add, Nat.reduceAdd]
    refine ⟨?_, ?_, ?_, ?_, ?_, ?_, ?_, ?_, ?_, ?_, trivial⟩
    · intro w0_ hF_ hd_ Q_ K_ hK_
      have hc0_ := (bcell hF_).1
      have hf0_ := (bcell hF_).2
      have hz0_ := hF_.size; (try simp at hz0_)
      (try simp at hc0_ hf0_)
      have : w.heap.size < w0_.heap.size := by omega
      simp only [DepsR, Region.binds, Nat.zero_add, Nat.reduceAdd, true_implies, Bool.false_eq_true, false_implies, and_true, true_and, BEq.rfl, reduceCtorEq] at hd_
      go_simp
      exact hK_.out _ _ _ (by first | rfl | (simp only [Act.put, List.setIfInBounds_toArray, List.set_cons_zero, List.set_cons_succ, hd_]; done) | (simp only [Act.put, List.setIfInBounds_toArray, List.set_cons_zero, List.set_cons_succ, hd_]; rfl)) (Below.refl _ _) rfl (fun h => by cases h)
    · intro w0_ hF_ hd_ Q_ K_ hK_
      have hc0_ := (bcell hF_).1
      have hf0_ := (bcell hF_).2
      have hz0_ := hF_.size; (try simp at hz0_)
      (try simp at hc0_ hf0_)
      have : w.heap.size < w0_.heap.size := by omega
      simp only [DepsR, Region.binds, Nat.zero_add, Nat.reduceAdd, true_implies, Bool.false_eq_true, false_implies, and_true, true_and, BEq.rfl, reduceCtorEq] at hd_
      go_simp
      exact hK_.out _ _ _ (by first | rfl | (simp only [Act.put, List.setIfInBounds_toArray, List.set_cons_zero, List.set_cons_succ, hd_]; done) | (simp only [Act.put, List.setIfInBounds_toArray, List.set_cons_zero, List.set_cons_succ, hd_]; rfl)) (Below.refl _ _) rfl (fun h => by cases h)
    · intro w0_ hF_ hd_ Q_ K_ hK_
      have hc0_ := (bcell hF_).1
      have hf0_ := (bcell hF_).2
      have hz0_ := hF_.size; (try simp at hz0_)
      (try simp at hc0_ hf0_)
      have : w.heap.size < w0_.heap.size := by omega
      simp only [DepsR, Region.binds, Nat.zero_add, Nat.reduceAdd, true_implies, Bool.false_eq_true, false_implies, and_true, true_and, BEq.rfl, reduceCtorEq] at hd_
      go_simp
      exact hK_.out _ _ _ (by first | rfl | (simp only [Act.put, List.setIfInBounds_toArray, List.set_cons_zero, List.set_cons_succ, hd_]; done) | (simp only [Act.put, List.setIfInBounds_toArray, List.set_cons_zero, List.set_cons_succ, hd_]; rfl)) (Below.refl _ _) rfl (fun h => by cases h)
    · intro w0_ hF_ hd_ Q_ K_ hK_
      have hc0_ := (bcell hF_).1
      have hf0_ := (bcell hF_).2
      have hz0_ := hF_.size; (try simp at hz0_)
      (try simp at hc0_ hf0_)
      have : w.heap.size < w0_.heap.size := by omega
      simp only [DepsR, Region.binds, Nat.zero_add, Nat.reduceAdd, true_implies, Bool.false_eq_true, false_implies, and_true, true_and, BEq.rfl, reduceCtorEq] at hd_
      go_simp
      refine (C1.out _).mono ?_
      rintro e_ w1_ ⟨rfl, hb_⟩
      exact hK_.out _ _ _ (by first | rfl | (simp only [Act.put, List.setIfInBounds_toArray, List.set_cons_zero, List.set_cons_succ, hd_]; done) | (simp only [Act.put, List.setIfInBounds_toArray, List.set_cons_zero, List.set_cons_succ, hd_]; rfl)) hb_ rfl (fun h => by cases h)
    · intro w0_ hF_ hd_ Q_ K_ hK_
      have hc0_ := (bcell hF_).1
      have hf0_ := (bcell hF_).2
      have hz0_ := hF_.size; (try simp at hz0_)
      (try simp at hc0_ hf0_)
      have : w.heap.size < w0_.heap.size := by omega
      simp only [DepsR, Region.binds, Nat.zero_add, Nat.reduceAdd, true_implies, Bool.false_eq_true, false_implies, and_true, true_and, BEq.rfl, reduceCtorEq] at hd_
      go_simp
      exact hK_.out _ _ _ (by first | rfl | (simp only [Act.put, List.setIfInBounds_toArray, List.set_cons_zero, List.set_cons_succ, hd_]; done) | (simp only [Act.put, List.setIfInBounds_toArray, List.set_cons_zero, List.set_cons_succ, hd_]; rfl)) (Below.refl _ _) rfl (fun h => by cases h)
    · intro w0_ hF_ hd_ Q_ K_ hK_
      have hc0_ := (bcell hF_).1
      have hf0_ := (bcell hF_).2
      have hz0_ := hF_.size; (try simp at hz0_)
      (try simp at hc0_ hf0_)
      have : w.heap.size < w0_.heap.size := by omega
      simp only [DepsR, Region.binds, Nat.zero_add, Nat.reduceAdd, true_implies, Bool.false_eq_true, false_implies, and_true, true_and, BEq.rfl, reduceCtorEq] at hd_
      go_simp
      exact hK_.out _ _ _ (by first | rfl | (simp only [Act.put, List.setIfInBounds_toArray, List.set_cons_zero, List.set_cons_succ, hd_]; done) | (simp only [Act.put, List.setIfInBounds_toArray, List.set_cons_zero, List.set_cons_succ, hd_]; rfl)) (Below.refl _ _) rfl (fun h => by cases h)
    · intro w0_ hF_ hd_ Q_ K_ hK_
      have hc0_ := (bcell hF_).1
      have hf0_ := (bcell hF_).2
      have hz0_ := hF_.size; (try simp at hz0_)
      (try simp at hc0_ hf0_)
      have : w.heap.size < w0_.heap.size := by omega
      simp only [DepsR, Region.binds, Nat.zero_add, Nat.reduceAdd, true_implies, Bool.false_eq_true, false_implies, and_true, true_and, BEq.rfl, reduceCtorEq] at hd_
      go_simp
      exact hK_.out _ _ _ (by first | rfl | (simp only [Act.put, List.setIfInBounds_toArray, List.set_cons_zero, List.set_cons_succ, hd_]; done) | (simp only [Act.put, List.setIfInBounds_toArray, List.set_cons_zero, List.set_cons_succ, hd_]; rfl)) (Below.refl _ _) rfl (fun h => by cases h)
    · intro w0_ hF_ hd_ Q_ K_ hK_
      have hc0_ := (bcell hF_).1
      have hf0_ := (bcell hF_).2
      have hz0_ := hF_.size; (try simp at hz0_)
      (try simp at hc0_ hf0_)
      have : w.heap.size < w0_.heap.size := by omega
      simp only [DepsR, Region.binds, Nat.zero_add, Nat.reduceAdd, true_implies, Bool.false_eq_true, false_implies, and_true, true_and, BEq.rfl, reduceCtorEq] at hd_
      go_simp
      refine (C2.out _).mono ?_
      rintro e_ w1_ ⟨rfl, hb_⟩
      exact hK_.out _ _ _ (by first | rfl | (simp only [Act.put, List.setIfInBounds_toArray, List.set_cons_zero, List.set_cons_succ, hd_]; done) | (simp only [Act.put, List.setIfInBounds_toArray, List.set_cons_zero, List.set_cons_succ, hd_]; rfl)) hb_ rfl (fun h => by cases h)
    · intro w0_ hF_ hd_ Q_ K_ hK_
      have hc0_ := (bcell hF_).1
      have hf0_ := (bcell hF_).2
      have hz0_ := hF_.size; (try simp at hz0_)
      (try simp at hc0_ hf0_)
      have : w.heap.size < w0_.heap.size := by omega
      simp only [DepsR, Region.binds, Nat.zero_add, Nat.reduceAdd, true_implies, Bool.false_eq_true, false_implies, and_true, true_and, BEq.rfl, reduceCtorEq] at hd_
      go_simp
      exact hK_.out _ _ _ (by first | rfl | (simp only [Act.put, List.setIfInBounds_toArray, List.set_cons_zero, List.set_cons_succ, hd_]; done) | (simp only [Act.put, List.setIfInBounds_toArray, List.set_cons_zero, List.set_cons_succ, hd_]; rfl)) (Below.refl _ _) rfl (fun h => by cases h)
    · intro w0_ hF_ hd_ Q_ K_ hK_
      have hc0_ := (bcell hF_).1
      have hf0_ := (bcell hF_).2
      have hz0_ := hF_.size; (try simp at hz0_)
      (try simp at hc0_ hf0_)
      have : w.heap.size < w0_.heap.size := by omega
      simp only [DepsR, Region.binds, Nat.zero_add, Nat.reduceAdd, true_implies, Bool.false_eq_true, false_implies, and_true, true_and, BEq.rfl, reduceCtorEq] at hd_
      go_simp
      exact hK_.out _ _ _ (by first | rfl | (simp only [Act.put, List.setIfInBounds_toArray, List.set_cons_zero, List.set_cons_succ, hd_]; done) | (simp only [Act.put, List.setIfInBounds_toArray, List.set_cons_zero, List.set_cons_succ, hd_]; rfl)) (Below.refl _ _) rfl (fun h => by cases h)
  · intro vs w2 hBw2 hA_ hD_
    simp only [AllR, Nat.zero_add, Nat.reduceAdd, and_true] at hA_
    obtain ⟨r0_, r1_, r2_, r3_, r4_, r5_, r6_, r7_, r8_, r9_⟩ := hA_
    clear hD_
    simp only [putAll, Act.put, List.setIfInBounds_toArray, List.set_cons_zero, List.set_cons_succ, Nat.zero_add, Nat.reduceAdd, r0_, r1_, r2_, r3_, r4_, r5_, r6_, r7_, r8_, r9_]
    clear r0_ r1_ r2_ r3_ r4_ r5_ r6_ r7_ r8_ r9_
    obtain ⟨hcw2, hfw2⟩ := bcell hBw2; (try simp only [World.size_drew, World.cell?_drew, World.frozen?_drew] at hcw2 hfw2); have hzw2 := hBw2.size; (try simp at hzw2)
    have : w.heap.size < w2.heap.size := by omega
    go_wp2
    go_ret
    refine ⟨rfl, ?_⟩
    repeat (first | (with_reducible exact Below.refl _ _) | (with_reducible refine Below.drew ?_) | (refine Below.setCell ?_ (by first | exact Nat.le_refl _ | (simp; done) | (simp; omega) | omega) _) | (refine Below.alloc ?_ (by first | exact Nat.le_refl _ | (simp; done) | (simp; omega) | omega) _) | (refine Below.trans ?_ (Below.mono (by assumption) (by first | exact Nat.le_refl _ | (simp; done) | (simp; omega) | omega))))
end Go.Proofs.YtfecnogmjfmghaaDoor
