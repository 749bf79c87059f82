/- EreJoins: two values of one tree are one; does an expression begin with a bracket? -/
import Derived.Test.YtfmekmbdienbjaaEreS
import Derived.Test.YtfmekmbdienbjaaLinD
import Derived.ChangeKeysEq
namespace Go.Proofs.Ytfmekmbdienbjaa
set_option linter.unusedSimpArgs false
set_option linter.unusedVariables false
set_option linter.unnecessarySimpa false
open Go.RowKit

theorem u64_eqIn (d : Nat) (x : Int) (w : World) : (Op.equalIn (d + 1) 24 (.int .u64 x) (.int .u64 x)).run Try.prog w = .ok true w := by
  have hk : Try.prog.underlying 24 = some (.int .u64) := by kernel_rfl
  simp [Op.equalIn, run_underlying hk]
theorem set_eqIn' (D : Nat) (h : ∀ x w, (Op.equalIn D 24 (.int .u64 x) (.int .u64 x)).run Try.prog w = .ok true w) (a b c d : Int) (w : World) : (Op.equalIn (D + 1) 26 (.agg #[.int .u64 a, .int .u64 b, .int .u64 c, .int .u64 d]) (.agg #[.int .u64 a, .int .u64 b, .int .u64 c, .int .u64 d])).run Try.prog w = .ok true w := by
  obtain ⟨i, hi⟩ : ∃ i, Try.prog.info? 24 = some i := Option.isSome_iff_exists.1 (by kernel_rfl)
  have hu : Try.prog.underlying 26 = some (.array 4 24) := by kernel_rfl
  have h1 := run_equalIn_array (P := Try.prog) w D #[.int .u64 a, .int .u64 b, .int .u64 c, .int .u64 d] #[.int .u64 a, .int .u64 b, .int .u64 c, .int .u64 d] hu hi
  have hc : Try.prog.cellsOf 24 = 1 := by kernel_rfl
  have hk : Try.prog.underlying 24 = some (.int .u64) := by kernel_rfl
  have hp : ∀ (xs : Array Value) (k : Nat) (x : Int) (w : World), xs[k]? = some (.int .u64 x) → (part 24 xs k).run Try.prog w = .ok (.int .u64 x) w := by
    intro xs k x w hx
    simp [part, isAgg, run_underlying hk, underlying, hx, Try.underlying24]
  rw [h1, hc]
  rw [show List.range 4 = [0, 1, 2, 3] from rfl]
  simp only [Op.eqItems, Sem.run_bind, Nat.mul_one]
  rw [hp _ 0 a w rfl]; simp only [Result.andThen]
  rw [hp _ 0 a w rfl]; simp only [Result.andThen]
  rw [h]; simp only [Result.andThen, Bool.not_true, Bool.false_eq_true, if_false, Sem.run_bind]
  rw [hp _ 1 b w rfl]; simp only [Result.andThen]
  rw [hp _ 1 b w rfl]; simp only [Result.andThen]
  rw [h]; simp only [Result.andThen, Bool.not_true, Bool.false_eq_true, if_false, Sem.run_bind]
  rw [hp _ 2 c w rfl]; simp only [Result.andThen]
  rw [hp _ 2 c w rfl]; simp only [Result.andThen]
  rw [h]; simp only [Result.andThen, Bool.not_true, Bool.false_eq_true, if_false, Sem.run_bind]
  rw [hp _ 3 d w rfl]; simp only [Result.andThen]
  rw [hp _ 3 d w rfl]; simp only [Result.andThen]
  rw [h]; simp only [Result.andThen, Bool.not_true, Bool.false_eq_true, if_false]
  rfl
theorem set_eqIn (a b c d : Int) (w : World) : (Op.equalIn 10000 26 (.agg #[.int .u64 a, .int .u64 b, .int .u64 c, .int .u64 d]) (.agg #[.int .u64 a, .int .u64 b, .int .u64 c, .int .u64 d])).run Try.prog w = .ok true w :=
  set_eqIn' 9999 (fun x w => u64_eqIn 9998 x w) a b c d w

set_option maxRecDepth 100000 in
theorem wrapped_u {l : List UInt8} {v : Value} {w : World} (h : BS w v l) :
    Calls Try.prog 8 #[v] w fun e w' => e = .returned (.bool (isL l 0 40)) ∧ w' = w := by
  obtain ⟨ad, cap, rfl, h4, h5, h6⟩ := h
  by_cases hn : l.length = 0
  · have e0 : isL l 0 40 = false := by unfold isL; rw [decide_eq_false (by omega)]; rfl
    have t0 : decide ((0 : Int) < (l.length : Int)) = false := decide_eq_false (by omega)
    have t0' : decide (0 < l.length) = false := decide_eq_false (by omega)
    rw [e0]
    clear h6
    go_enter Try.func8, Try.ntmps8
    go_wp2
    go_ret
    exact ⟨rfl, rfl⟩
  · obtain ⟨g, o, rfl, hg, hc⟩ := h6 (by intro e; rw [e] at hn; exact hn rfl)
    have c0 : w.cell? ⟨g, o, none⟩ = some (.int .u8 ((l.getD 0 0).toNat : Int)) := hc 0 (by omega)
    have t0 : decide ((0 : Int) < (l.length : Int)) = true := decide_eq_true (by omega)
    have t0' : decide (0 < l.length) = true := decide_eq_true (by omega)
    have e0 : isL l 0 40 = (l.getD 0 0 == 40) := by unfold isL; rw [t0', Bool.true_and]
    have e1 : (((l.getD 0 0).toNat : Int) == 40) = (l.getD 0 0 == 40) := by
      rw [Bool.eq_iff_iff, beq_iff_eq, beq_iff_eq]
      constructor
      · intro h; apply UInt8.toNat_inj.1; show _ = 40; omega
      · intro h; rw [h]; rfl
    rw [e0]
    generalize l.getD 0 0 = x at *
    clear hc h6 e0
    go_enter Try.func8, Try.ntmps8
    go_wp2
    go_ret
    exact ⟨by rw [← e1]; rfl, rfl⟩

set_option maxRecDepth 100000 in
set_option maxHeartbeats 8000000 in
theorem one_u {w : World} {S : Nat → Prop} {c : Array Value} {t : PT} (h : PValS w S c t) : ∀ {w2 : World} {S2 : Nat → Prop} {d : Array Value}, Below w.heap.size w w2 → PValS w2 S2 d t →
    Calls Try.prog 9 #[.agg c, .agg d] w2 fun e w' => e = .returned (.bool true) ∧ Below w2.heap.size w2 w' := by
  induction h with
  | mk k p a b l ad cap blk cs h0 h1 hc hs ih =>
    intro w2 S2 d hb hd
    cases hd with
    | mk _ _ _ _ _ ad' cap' blk' cs' h0' h1' hc' hs' =>
    have IH := Lib.hid ih
    have HS := Lib.hid hs
    have HS' := Lib.hid hs'
    have H1 := Lib.hid h1
    have H1' := Lib.hid h1'
    have HC := Lib.hid hc
    have HC' := Lib.hid hc'
    have HB := Lib.hid hb
    have q0 := set_eqIn (wd p 0 : Nat) (wd p 1 : Nat) (wd p 2 : Nat) (wd p 3 : Nat)
    clear ih hs hs' h1 h1' hc hc' hb
    go_enter Try.func9, Try.ntmps9
    go_wp2
    have ra : Row ((w2.alloc (.cells (partA k p a b (.slice ad l.length cap)) 29)).alloc (.cells (partA k p a b (.slice ad' l.length cap')) 29)) w2.heap.size 29 (partA k p a b (.slice ad l.length cap)) := (Row.new w2 _ _).alloc _
    have rb : Row ((w2.alloc (.cells (partA k p a b (.slice ad l.length cap)) 29)).alloc (.cells (partA k p a b (.slice ad' l.length cap')) 29)) (w2.heap.size + 1) 29 (partA k p a b (.slice ad' l.length cap')) := Row.new (w2.alloc (.cells (partA k p a b (.slice ad l.length cap)) 29)) _ _ |> (by simpa using ·)
    have hBB : Below w2.heap.size w2 ((w2.alloc (.cells (partA k p a b (.slice ad l.length cap)) 29)).alloc (.cells (partA k p a b (.slice ad' l.length cap')) 29)) := by repeat (first | (with_reducible exact Below.refl _ _) | (with_reducible refine Below.drew ?_) | (refine Below.setCell ?_ (by first | exact Nat.le_refl _ | (simp; done) | (simp; omega) | omega) _) | (refine Below.alloc ?_ (by first | exact Nat.le_refl _ | (simp; done) | (simp; omega) | omega) _) | (refine Below.trans ?_ (Below.mono (by assumption) (by first | exact Nat.le_refl _ | (simp; done) | (simp; omega) | omega))))
    generalize ((w2.alloc (.cells (partA k p a b (.slice ad l.length cap)) 29)).alloc (.cells (partA k p a b (.slice ad' l.length cap')) 29)) = w1 at *
    clear q0
    go_loopw [5] (fun i wr => ∃ j : Nat, j ≤ l.length ∧ i = .int .i64 (j : Int) ∧ Row wr w2.heap.size 29 (partA k p a b (.slice ad l.length cap)) ∧ Row wr (w2.heap.size + 1) 29 (partA k p a b (.slice ad' l.length cap')) ∧ Below w2.heap.size w2 wr) (fun i _ => l.length - (intOf i).toNat)
    case atStart => exact ⟨0, Nat.zero_le _, rfl, ra, rb, hBB⟩
    case round =>
      obtain ⟨ix, hj, rfl, r, rx, hBr⟩ := hrel
      have x7 : wr.cell? ⟨w2.heap.size, 7, none⟩ = some (.slice ad l.length cap) := r.cell 7
      have y7 : wr.cell? ⟨w2.heap.size + 1, 7, none⟩ = some (.slice ad' l.length cap') := rx.cell 7
      have lx := r.lt
      have ly := rx.lt
      have RR := Lib.hid (And.intro r (And.intro rx hBr))
      clear r rx
      by_cases hlt : ix < l.length
      · have hn : l ≠ [] := by rintro rfl; simp at hlt
        obtain ⟨rfl, hS, hbl⟩ := H1.out hn
        obtain ⟨rfl, hS', hbl'⟩ := H1'.out hn
        have BL := below_on HB.out hBr
        obtain ⟨k1, p1, a1, b1, ad1, n1, cap1, e⟩ := (HS.out ix hlt).inv
        obtain ⟨k2, p2, a2, b2, ad2, n2, cap2, e'⟩ := (HS'.out ix hlt).inv
        have CH : Hid (∀ W, Below wr.heap.size wr W → Calls Try.prog 9 #[.agg (cs ix), .agg (cs' ix)] W fun e w' => e = .returned (.bool true) ∧ Below W.heap.size W w') := by
          intro W hW
          exact IH.out ix hlt (below_on BL hW) ((HS'.out ix hlt).blw (below_on hBr hW))
        have C : ∀ i v, (cs ix)[i]? = some v → wr.cell? ⟨blk, ix * 8 + i, none⟩ = some v := fun i v hv => by rw [Nat.mul_comm ix 8]; exact (BL.cell (p := ⟨blk, 8 * ix + i, none⟩) hbl).trans (HC.out ix hlt i v hv)
        have C' : ∀ i v, (cs' ix)[i]? = some v → wr.cell? ⟨blk', ix * 8 + i, none⟩ = some v := fun i v hv => by rw [Nat.mul_comm ix 8]; exact (hBr.cell (p := ⟨blk', 8 * ix + i, none⟩) hbl').trans (HC'.out ix hlt i v hv)
        rw [e] at C CH
        rw [e'] at C' CH
        have c0 : wr.cell? ⟨blk, ix * 8, none⟩ = some (.int .i64 (k1 : Int)) := C 0 _ rfl
        have c1 : wr.cell? ⟨blk, ix * 8 + 1, none⟩ = some (.int .u64 (wd p1 0 : Int)) := C 1 _ rfl
        have c2 : wr.cell? ⟨blk, ix * 8 + 2, none⟩ = some (.int .u64 (wd p1 1 : Int)) := C 2 _ rfl
        have c3 : wr.cell? ⟨blk, ix * 8 + 3, none⟩ = some (.int .u64 (wd p1 2 : Int)) := C 3 _ rfl
        have c4 : wr.cell? ⟨blk, ix * 8 + 4, none⟩ = some (.int .u64 (wd p1 3 : Int)) := C 4 _ rfl
        have c5 : wr.cell? ⟨blk, ix * 8 + 5, none⟩ = some (.int .i64 a1) := C 5 _ rfl
        have c6 : wr.cell? ⟨blk, ix * 8 + 6, none⟩ = some (.int .i64 b1) := C 6 _ rfl
        have c7 : wr.cell? ⟨blk, ix * 8 + 7, none⟩ = some (.slice ad1 n1 cap1) := C 7 _ rfl
        have d0 : wr.cell? ⟨blk', ix * 8, none⟩ = some (.int .i64 (k2 : Int)) := C' 0 _ rfl
        have d1 : wr.cell? ⟨blk', ix * 8 + 1, none⟩ = some (.int .u64 (wd p2 0 : Int)) := C' 1 _ rfl
        have d2 : wr.cell? ⟨blk', ix * 8 + 2, none⟩ = some (.int .u64 (wd p2 1 : Int)) := C' 2 _ rfl
        have d3 : wr.cell? ⟨blk', ix * 8 + 3, none⟩ = some (.int .u64 (wd p2 2 : Int)) := C' 3 _ rfl
        have d4 : wr.cell? ⟨blk', ix * 8 + 4, none⟩ = some (.int .u64 (wd p2 3 : Int)) := C' 4 _ rfl
        have d5 : wr.cell? ⟨blk', ix * 8 + 5, none⟩ = some (.int .i64 a2) := C' 5 _ rfl
        have d6 : wr.cell? ⟨blk', ix * 8 + 6, none⟩ = some (.int .i64 b2) := C' 6 _ rfl
        have d7 : wr.cell? ⟨blk', ix * 8 + 7, none⟩ = some (.slice ad2 n2 cap2) := C' 7 _ rfl
        have hb1 : blk < wr.heap.size := by have := BL.size; omega
        have hb2 : blk' < wr.heap.size := by have := hBr.size; omega
        clear C C' BL e e' IH HS HS' HC HC' H1 H1' HB hS hS' hbl hbl' hBr
        have t0 : decide ((ix : Int) < (l.length : Int)) = true := decide_eq_true (by omega)
        have t0' : decide (ix < l.length) = true := decide_eq_true hlt
        have hge : (0 : Int) ≤ (ix : Int) := by omega
        have wi : IntKind.i64.wrap ((ix : Int) + 1) = (ix : Int) + 1 := by rw [IntKind.wrap_i64]; have := h0.1; have := h0.2; simp only [maxLen] at this; omega
        go_upto_region 6 with fail
        refine wp_region_keep (t := fun j => j) (al := fun _ => false) (loud := fun _ => false)
          (R := fun j v u w' => match j with
            | 0 => v = .pointer (some ⟨w2.heap.size, 7, none⟩)
            | 1 => v = .slice (some ⟨blk, 0, none⟩) l.length cap
            | 2 => v = .int .i64 (ix : Int)
            | 3 => v = .pointer (some ⟨blk, ix * 8, none⟩)
            | 4 => v = .agg (partA k1 p1 a1 b1 (.slice ad1 n1 cap1))
            | 5 => v = .pointer (some ⟨w2.heap.size + 1, 7, none⟩)
            | 6 => v = .slice (some ⟨blk', 0, none⟩) l.length cap'
            | 7 => v = .int .i64 (ix : Int)
            | 8 => v = .pointer (some ⟨blk', ix * 8, none⟩)
            | 9 => v = .agg (partA k2 p2 a2 b2 (.slice ad2 n2 cap2))
            | 10 => v = .bool true
            | 11 => v = .bool false
            | _ => True) (by kernel_rfl) (by kernel_rfl) (by kernel_rfl) ?_ ?_ ?_ ?_
        · intro j v u w1_ w2_ h_ hF_ hB_
          (try dsimp only at h_ ⊢)
          split at h_ <;> first | (with_reducible exact h_) | (with_reducible exact NewR.on h_ hB_) | (with_reducible exact HasR.on h_ hB_) | exact IsNum.on h_ hB_ | exact HasNum.on h_ hB_ | exact RHeld.on h_ hB_ | trivial | exact h_
        · intro j v u w1_ h1_ h_
          cases h1_
        · intro vs
          simp only [putAll, Act.put, List.setIfInBounds_toArray, List.set_cons_zero, List.set_cons_succ, Nat.zero_add, Nat.reduceAdd]
          refine ⟨?_, ?_, ?_, ?_, ?_, ?_, ?_, ?_, ?_, ?_, ?_, ?_, trivial⟩
          · intro w0_ hF_ hd_ Q_ K_ hK_
            have hc0_ := (bcell hF_).1
            have hf0_ := (bcell hF_).2
            have hz0_ := hF_.size; (try simp at hz0_)
            (try simp at hc0_ hf0_)
            have : w2.heap.size < w0_.heap.size := by omega
            have : w2.heap.size + 1 < w0_.heap.size := by omega
            have : blk < w0_.heap.size := by omega
            have : blk' < w0_.heap.size := by omega
            simp only [DepsR, Region.binds, Nat.zero_add, Nat.reduceAdd, true_implies, Bool.false_eq_true, false_implies, and_true, true_and, BEq.rfl, reduceCtorEq] at hd_
            go_simp
            exact hK_.out _ _ _ (by first | rfl | (simp only [Act.put, List.setIfInBounds_toArray, List.set_cons_zero, List.set_cons_succ, hd_]; done) | (simp only [Act.put, List.setIfInBounds_toArray, List.set_cons_zero, List.set_cons_succ, hd_]; rfl)) (Below.refl _ _) rfl (fun h => by cases h)
          · intro w0_ hF_ hd_ Q_ K_ hK_
            have hc0_ := (bcell hF_).1
            have hf0_ := (bcell hF_).2
            have hz0_ := hF_.size; (try simp at hz0_)
            (try simp at hc0_ hf0_)
            have : w2.heap.size < w0_.heap.size := by omega
            have : w2.heap.size + 1 < w0_.heap.size := by omega
            have : blk < w0_.heap.size := by omega
            have : blk' < w0_.heap.size := by omega
            simp only [DepsR, Region.binds, Nat.zero_add, Nat.reduceAdd, true_implies, Bool.false_eq_true, false_implies, and_true, true_and, BEq.rfl, reduceCtorEq] at hd_
            go_simp
            exact hK_.out _ _ _ (by first | rfl | (simp only [Act.put, List.setIfInBounds_toArray, List.set_cons_zero, List.set_cons_succ, hd_]; done) | (simp only [Act.put, List.setIfInBounds_toArray, List.set_cons_zero, List.set_cons_succ, hd_]; rfl)) (Below.refl _ _) rfl (fun h => by cases h)
          · intro w0_ hF_ hd_ Q_ K_ hK_
            have hc0_ := (bcell hF_).1
            have hf0_ := (bcell hF_).2
            have hz0_ := hF_.size; (try simp at hz0_)
            (try simp at hc0_ hf0_)
            have : w2.heap.size < w0_.heap.size := by omega
            have : w2.heap.size + 1 < w0_.heap.size := by omega
            have : blk < w0_.heap.size := by omega
            have : blk' < w0_.heap.size := by omega
            simp only [DepsR, Region.binds, Nat.zero_add, Nat.reduceAdd, true_implies, Bool.false_eq_true, false_implies, and_true, true_and, BEq.rfl, reduceCtorEq] at hd_
            go_simp
            exact hK_.out _ _ _ (by first | rfl | (simp only [Act.put, List.setIfInBounds_toArray, List.set_cons_zero, List.set_cons_succ, hd_]; done) | (simp only [Act.put, List.setIfInBounds_toArray, List.set_cons_zero, List.set_cons_succ, hd_]; rfl)) (Below.refl _ _) rfl (fun h => by cases h)
          · intro w0_ hF_ hd_ Q_ K_ hK_
            have hc0_ := (bcell hF_).1
            have hf0_ := (bcell hF_).2
            have hz0_ := hF_.size; (try simp at hz0_)
            (try simp at hc0_ hf0_)
            have : w2.heap.size < w0_.heap.size := by omega
            have : w2.heap.size + 1 < w0_.heap.size := by omega
            have : blk < w0_.heap.size := by omega
            have : blk' < w0_.heap.size := by omega
            simp only [DepsR, Region.binds, Nat.zero_add, Nat.reduceAdd, true_implies, Bool.false_eq_true, false_implies, and_true, true_and, BEq.rfl, reduceCtorEq] at hd_
            go_simp
            exact hK_.out _ _ _ (by first | rfl | (simp only [Act.put, List.setIfInBounds_toArray, List.set_cons_zero, List.set_cons_succ, hd_]; done) | (simp only [Act.put, List.setIfInBounds_toArray, List.set_cons_zero, List.set_cons_succ, hd_]; rfl)) (Below.refl _ _) rfl (fun h => by cases h)
          · intro w0_ hF_ hd_ Q_ K_ hK_
            have hc0_ := (bcell hF_).1
            have hf0_ := (bcell hF_).2
            have hz0_ := hF_.size; (try simp at hz0_)
            (try simp at hc0_ hf0_)
            have : w2.heap.size < w0_.heap.size := by omega
            have : w2.heap.size + 1 < w0_.heap.size := by omega
            have : blk < w0_.heap.size := by omega
            have : blk' < w0_.heap.size := by omega
            simp only [DepsR, Region.binds, Nat.zero_add, Nat.reduceAdd, true_implies, Bool.false_eq_true, false_implies, and_true, true_and, BEq.rfl, reduceCtorEq] at hd_
            go_simp
            exact hK_.out _ _ _ (by first | rfl | (simp only [Act.put, List.setIfInBounds_toArray, List.set_cons_zero, List.set_cons_succ, hd_]; done) | (simp only [Act.put, List.setIfInBounds_toArray, List.set_cons_zero, List.set_cons_succ, hd_]; rfl)) (Below.refl _ _) rfl (fun h => by cases h)
          · intro w0_ hF_ hd_ Q_ K_ hK_
            have hc0_ := (bcell hF_).1
            have hf0_ := (bcell hF_).2
            have hz0_ := hF_.size; (try simp at hz0_)
            (try simp at hc0_ hf0_)
            have : w2.heap.size < w0_.heap.size := by omega
            have : w2.heap.size + 1 < w0_.heap.size := by omega
            have : blk < w0_.heap.size := by omega
            have : blk' < w0_.heap.size := by omega
            simp only [DepsR, Region.binds, Nat.zero_add, Nat.reduceAdd, true_implies, Bool.false_eq_true, false_implies, and_true, true_and, BEq.rfl, reduceCtorEq] at hd_
            go_simp
            exact hK_.out _ _ _ (by first | rfl | (simp only [Act.put, List.setIfInBounds_toArray, List.set_cons_zero, List.set_cons_succ, hd_]; done) | (simp only [Act.put, List.setIfInBounds_toArray, List.set_cons_zero, List.set_cons_succ, hd_]; rfl)) (Below.refl _ _) rfl (fun h => by cases h)
          · intro w0_ hF_ hd_ Q_ K_ hK_
            have hc0_ := (bcell hF_).1
            have hf0_ := (bcell hF_).2
            have hz0_ := hF_.size; (try simp at hz0_)
            (try simp at hc0_ hf0_)
            have : w2.heap.size < w0_.heap.size := by omega
            have : w2.heap.size + 1 < w0_.heap.size := by omega
            have : blk < w0_.heap.size := by omega
            have : blk' < w0_.heap.size := by omega
            simp only [DepsR, Region.binds, Nat.zero_add, Nat.reduceAdd, true_implies, Bool.false_eq_true, false_implies, and_true, true_and, BEq.rfl, reduceCtorEq] at hd_
            go_simp
            exact hK_.out _ _ _ (by first | rfl | (simp only [Act.put, List.setIfInBounds_toArray, List.set_cons_zero, List.set_cons_succ, hd_]; done) | (simp only [Act.put, List.setIfInBounds_toArray, List.set_cons_zero, List.set_cons_succ, hd_]; rfl)) (Below.refl _ _) rfl (fun h => by cases h)
          · intro w0_ hF_ hd_ Q_ K_ hK_
            have hc0_ := (bcell hF_).1
            have hf0_ := (bcell hF_).2
            have hz0_ := hF_.size; (try simp at hz0_)
            (try simp at hc0_ hf0_)
            have : w2.heap.size < w0_.heap.size := by omega
            have : w2.heap.size + 1 < w0_.heap.size := by omega
            have : blk < w0_.heap.size := by omega
            have : blk' < w0_.heap.size := by omega
            simp only [DepsR, Region.binds, Nat.zero_add, Nat.reduceAdd, true_implies, Bool.false_eq_true, false_implies, and_true, true_and, BEq.rfl, reduceCtorEq] at hd_
            go_simp
            exact hK_.out _ _ _ (by first | rfl | (simp only [Act.put, List.setIfInBounds_toArray, List.set_cons_zero, List.set_cons_succ, hd_]; done) | (simp only [Act.put, List.setIfInBounds_toArray, List.set_cons_zero, List.set_cons_succ, hd_]; rfl)) (Below.refl _ _) rfl (fun h => by cases h)
          · intro w0_ hF_ hd_ Q_ K_ hK_
            have hc0_ := (bcell hF_).1
            have hf0_ := (bcell hF_).2
            have hz0_ := hF_.size; (try simp at hz0_)
            (try simp at hc0_ hf0_)
            have : w2.heap.size < w0_.heap.size := by omega
            have : w2.heap.size + 1 < w0_.heap.size := by omega
            have : blk < w0_.heap.size := by omega
            have : blk' < w0_.heap.size := by omega
            simp only [DepsR, Region.binds, Nat.zero_add, Nat.reduceAdd, true_implies, Bool.false_eq_true, false_implies, and_true, true_and, BEq.rfl, reduceCtorEq] at hd_
            go_simp
            exact hK_.out _ _ _ (by first | rfl | (simp only [Act.put, List.setIfInBounds_toArray, List.set_cons_zero, List.set_cons_succ, hd_]; done) | (simp only [Act.put, List.setIfInBounds_toArray, List.set_cons_zero, List.set_cons_succ, hd_]; rfl)) (Below.refl _ _) rfl (fun h => by cases h)
          · intro w0_ hF_ hd_ Q_ K_ hK_
            have hc0_ := (bcell hF_).1
            have hf0_ := (bcell hF_).2
            have hz0_ := hF_.size; (try simp at hz0_)
            (try simp at hc0_ hf0_)
            have : w2.heap.size < w0_.heap.size := by omega
            have : w2.heap.size + 1 < w0_.heap.size := by omega
            have : blk < w0_.heap.size := by omega
            have : blk' < w0_.heap.size := by omega
            simp only [DepsR, Region.binds, Nat.zero_add, Nat.reduceAdd, true_implies, Bool.false_eq_true, false_implies, and_true, true_and, BEq.rfl, reduceCtorEq] at hd_
            go_simp
            exact hK_.out _ _ _ (by first | rfl | (simp only [Act.put, List.setIfInBounds_toArray, List.set_cons_zero, List.set_cons_succ, hd_]; done) | (simp only [Act.put, List.setIfInBounds_toArray, List.set_cons_zero, List.set_cons_succ, hd_]; rfl)) (Below.refl _ _) rfl (fun h => by cases h)
          · intro w0_ hF_ hd_ Q_ K_ hK_
            have hc0_ := (bcell hF_).1
            have hf0_ := (bcell hF_).2
            have hz0_ := hF_.size; (try simp at hz0_)
            (try simp at hc0_ hf0_)
            have : w2.heap.size < w0_.heap.size := by omega
            have : w2.heap.size + 1 < w0_.heap.size := by omega
            have : blk < w0_.heap.size := by omega
            have : blk' < w0_.heap.size := by omega
            simp only [DepsR, Region.binds, Nat.zero_add, Nat.reduceAdd, true_implies, Bool.false_eq_true, false_implies, and_true, true_and, BEq.rfl, reduceCtorEq] at hd_
            go_simp
            refine (CH.out _ hF_).mono ?_
            rintro e_ w1_ ⟨rfl, hb_⟩
            exact hK_.out _ _ _ (by first | rfl | (simp only [Act.put, List.setIfInBounds_toArray, List.set_cons_zero, List.set_cons_succ, hd_]; done) | (simp only [Act.put, List.setIfInBounds_toArray, List.set_cons_zero, List.set_cons_succ, hd_]; rfl)) hb_ rfl (fun h => by cases h)
          · intro w0_ hF_ hd_ Q_ K_ hK_
            have hc0_ := (bcell hF_).1
            have hf0_ := (bcell hF_).2
            have hz0_ := hF_.size; (try simp at hz0_)
            (try simp at hc0_ hf0_)
            have : w2.heap.size < w0_.heap.size := by omega
            have : w2.heap.size + 1 < w0_.heap.size := by omega
            have : blk < w0_.heap.size := by omega
            have : blk' < w0_.heap.size := by omega
            simp only [DepsR, Region.binds, Nat.zero_add, Nat.reduceAdd, true_implies, Bool.false_eq_true, false_implies, and_true, true_and, BEq.rfl, reduceCtorEq] at hd_
            go_simp
            exact hK_.out _ _ _ (by first | rfl | (simp only [Act.put, List.setIfInBounds_toArray, List.set_cons_zero, List.set_cons_succ, hd_]; done) | (simp only [Act.put, List.setIfInBounds_toArray, List.set_cons_zero, List.set_cons_succ, hd_]; rfl)) (Below.refl _ _) rfl (fun h => by cases h)
        · intro vs u2 hBu2 hA_ hD_
          simp only [AllR, Nat.zero_add, Nat.reduceAdd, and_true] at hA_
          obtain ⟨r0_, r1_, r2_, r3_, r4_, r5_, r6_, r7_, r8_, r9_, r10_, r11_⟩ := hA_
          clear hD_
          simp only [putAll, Act.put, List.setIfInBounds_toArray, List.set_cons_zero, List.set_cons_succ, Nat.zero_add, Nat.reduceAdd, r0_, r1_, r2_, r3_, r4_, r5_, r6_, r7_, r8_, r9_, r10_, r11_]
          clear r0_ r1_ r2_ r3_ r4_ r5_ r6_ r7_ r8_ r9_ r10_ r11_
          obtain ⟨hcu2, hfu2⟩ := bcell hBu2; (try simp only [World.size_drew, World.cell?_drew, World.frozen?_drew] at hcu2 hfu2); have hzu2 := hBu2.size; (try simp at hzu2)
          have : w2.heap.size < u2.heap.size := by omega
          have : w2.heap.size + 1 < u2.heap.size := by omega
          have : blk < u2.heap.size := by omega
          have : blk' < u2.heap.size := by omega
          go_wp2
          go_roundw
          case rel => exact ⟨ix + 1, by omega, by go_num, RR.out.1.on hBu2, RR.out.2.1.on hBu2, RR.out.2.2.trans (hBu2.mono RR.out.2.2.size)⟩
          case measure => simp [intOf]; omega
      · have t0 : decide ((ix : Int) < (l.length : Int)) = false := decide_eq_false (by omega)
        have t0' : decide (ix < l.length) = false := decide_eq_false hlt
        go_wp2
        go_ret
        exact ⟨rfl, RR.out.2.2⟩
end Go.Proofs.Ytfmekmbdienbjaa
