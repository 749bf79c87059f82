/- The contract of dec.divide. -/
import Derived.Test.YtfecnogmjfmghaaDoorDecE
import Derived.LoopN
import Derived.Deep.RegionHeld3
namespace Go.Proofs.YtfecnogmjfmghaaDoor
set_option linter.unusedSimpArgs false
set_option linter.unusedVariables false
set_option linter.unnecessarySimpa false
open Go.RowKit

theorem zs6 {B n : Nat} (h : B + 1 + 1 + 1 + 1 + 1 + 1 ≤ n) : B < n ∧ B + 1 < n ∧ B + 1 + 1 < n ∧ B + 1 + 1 + 1 < n ∧ B + 1 + 1 + 1 + 1 < n ∧ B + 1 + 1 + 1 + 1 + 1 < n := by omega
theorem limbs_up (q : Nat) (hq : q < 115792089237316195423570985008687907853269984665640564039457584007913129639936) : ((0 * 18446744073709551616 + l3 q) * 18446744073709551616 + l2 q) * 18446744073709551616 + l1 q = q / 18446744073709551616 := by
  unfold l1 l2 l3; omega
theorem limbs_dn (q : Nat) : q / 18446744073709551616 * 18446744073709551616 + l0 q = q := by unfold l0; omega
theorem limbs_of {q0 q1 q2 q3 Q : Nat} (b0 : q0 < 18446744073709551616) (b1 : q1 < 18446744073709551616) (b2 : q2 < 18446744073709551616) (b3 : q3 < 18446744073709551616)
    (hQ : Q = ((q3 * 18446744073709551616 + q2) * 18446744073709551616 + q1) * 18446744073709551616 + q0) : q0 = l0 Q ∧ q1 = l1 Q ∧ q2 = l2 Q ∧ q3 = l3 Q := by
  unfold l0 l1 l2 l3
  omega
theorem l_lt (q : Nat) : l0 q < 18446744073709551616 ∧ l1 q < 18446744073709551616 ∧ l2 q < 18446744073709551616 ∧ l3 q < 18446744073709551616 := by
  unfold l0 l1 l2 l3; omega
theorem step_digit {K Q d r N qq r' l : Nat} (h : Q * d + r = N) (e : qq * d + r' = r * K + l) : (Q * K + qq) * d + r' = N * K + l := by
  have h' := congrArg (· * K) h
  simp only [Nat.add_mul] at h'
  rw [Nat.add_mul, Nat.mul_right_comm]
  omega
theorem div_fin0 {q d q0 q1 q2 q3 r0 r1 r2 r3 K l0 l1 l2 l3 N : Nat} (h : 0 < d) (h0 : r0 < d)
    (e3 : q3 * d + r3 = 0 * K + l3) (e2 : q2 * d + r2 = r3 * K + l2) (e1 : q1 * d + r1 = r2 * K + l1) (e0 : q0 * d + r0 = r1 * K + l0)
    (s : ((0 * K + l3) * K + l2) * K + l1 = N) (s' : N * K + l0 = q) :
    q / d = ((q3 * K + q2) * K + q1) * K + q0 ∧ q % d = r0 := by
  have f2 := step_digit e3 e2
  have f1 := step_digit f2 e1
  have f0 := step_digit f1 e0
  rw [s, s'] at f0
  generalize ((q3 * K + q2) * K + q1) * K + q0 = Q at *
  constructor
  · rw [← f0, Nat.mul_comm, Nat.mul_add_div h, Nat.div_eq_of_lt h0, Nat.add_zero]
  · rw [← f0, Nat.mul_comm, Nat.mul_add_mod, Nat.mod_eq_of_lt h0]

/-- One digit: the rest r and the limb x give the digit q' and the rest r'. -/
structure DE (d r x q' r' : Nat) : Prop where
  lt : r' < d
  dig : q' < 18446744073709551616
  eq : q' * d + r' = r * 18446744073709551616 + x
theorem de_mk {d r x : Nat} (hr : r < d) (hx : x < 18446744073709551616) : DE d r x (dgQ r x d) (dgR r x d) := by
  refine ⟨?_, ?_, ?_⟩
  · unfold dgR; exact Nat.mod_lt _ (by omega)
  · unfold dgQ; rw [Nat.div_lt_iff_lt_mul (by omega)]; omega
  · unfold dgQ dgR; exact Nat.div_add_mod' _ _
theorem de_fin {q d q0 q1 q2 q3 r0 r1 r2 r3 : Nat} (h : 0 < d) (hq : q < 115792089237316195423570985008687907853269984665640564039457584007913129639936)
    (e3 : DE d 0 (l3 q) q3 r3) (e2 : DE d r3 (l2 q) q2 r2) (e1 : DE d r2 (l1 q) q1 r1) (e0 : DE d r1 (l0 q) q0 r0) :
    q0 = l0 (q / d) ∧ q1 = l1 (q / d) ∧ q2 = l2 (q / d) ∧ q3 = l3 (q / d) ∧ r0 = q % d := by
  have f := div_fin0 h e0.lt e3.eq e2.eq e1.eq e0.eq (limbs_up q hq) (limbs_dn q)
  obtain ⟨m0, m1, m2, m3⟩ := limbs_of e0.dig e1.dig e2.dig e3.dig f.1
  exact ⟨m0, m1, m2, m3, f.2.symm⟩

abbrev divW6 (w : World) (q : Nat) (dn : Bool) (d : Nat) : World :=
  (((((w.alloc (.cells #[.int .u64 (l0 q : Int), .int .u64 (l1 q : Int), .int .u64 (l2 q : Int), .int .u64 (l3 q : Int)] 75)).alloc (.cells #[.bool dn, .int .u64 (hiN d : Int), .int .u64 (loN d : Int)] 26)).alloc
    (.cells #[.int .u64 0, .int .u64 0, .int .u64 0, .int .u64 0] 75)).alloc (.cells #[.bool false, .int .u64 0, .int .u64 0] 26)).alloc
    (.cells #[.int .u64 0, .int .u64 0, .int .u64 0, .int .u64 0] 75)).alloc (.cells #[.bool false, .int .u64 0, .int .u64 0] 26)

def DivW (w wr : World) (q : Nat) (dn : Bool) (d a0 a1 a2 a3 r : Nat) : Prop :=
  (∀ b o, b < w.heap.size + 1 + 1 + 1 + 1 → wr.cell? ⟨b, o, none⟩ = (divW6 w q dn d).cell? ⟨b, o, none⟩) ∧
  (∀ b o, b < w.heap.size + 1 + 1 + 1 + 1 + 1 + 1 → wr.frozen? ⟨b, o, none⟩ = (divW6 w q dn d).frozen? ⟨b, o, none⟩) ∧
  wr.cell? ⟨w.heap.size + 1 + 1 + 1 + 1, 0, none⟩ = some (.int .u64 (a0 : Int)) ∧ wr.cell? ⟨w.heap.size + 1 + 1 + 1 + 1, 1, none⟩ = some (.int .u64 (a1 : Int)) ∧
  wr.cell? ⟨w.heap.size + 1 + 1 + 1 + 1, 2, none⟩ = some (.int .u64 (a2 : Int)) ∧ wr.cell? ⟨w.heap.size + 1 + 1 + 1 + 1, 3, none⟩ = some (.int .u64 (a3 : Int)) ∧
  wr.cell? ⟨w.heap.size + 1 + 1 + 1 + 1 + 1, 0, none⟩ = some (.bool false) ∧ wr.cell? ⟨w.heap.size + 1 + 1 + 1 + 1 + 1, 1, none⟩ = some (.int .u64 (hiN r : Int)) ∧ wr.cell? ⟨w.heap.size + 1 + 1 + 1 + 1 + 1, 2, none⟩ = some (.int .u64 (loN r : Int)) ∧
  Below w.heap.size w wr ∧ w.heap.size + 1 + 1 + 1 + 1 + 1 + 1 ≤ wr.heap.size

/-- What one round does to the call's own blocks: one limb is stored, and the rest. -/
theorem DivW.step {w wr w1 : World} {q : Nat} {dn : Bool} {d a0 a1 a2 a3 r : Nat} (h : DivW w wr q dn d a0 a1 a2 a3 r) (hb : Below wr.heap.size wr w1) (k : Nat) (hk : k < 4) (a r' : Nat) :
    DivW w ((((w1.setCell ⟨w.heap.size + 1 + 1 + 1 + 1, k, none⟩ (.int .u64 (a : Int))).setCell ⟨w.heap.size + 1 + 1 + 1 + 1 + 1, 0, none⟩ (.bool false)).setCell ⟨w.heap.size + 1 + 1 + 1 + 1 + 1, 1, none⟩ (.int .u64 (hiN r' : Int))).setCell ⟨w.heap.size + 1 + 1 + 1 + 1 + 1, 2, none⟩ (.int .u64 (loN r' : Int))) q dn d
      (if k = 0 then a else a0) (if k = 1 then a else a1) (if k = 2 then a else a2) (if k = 3 then a else a3) r' := by
  obtain ⟨hC, hF, c0, c1, c2, c3, z0, z1, z2, hB, hz⟩ := h
  have hz1 := hb.size
  have cell : ∀ b o, b < wr.heap.size → w1.cell? ⟨b, o, none⟩ = wr.cell? ⟨b, o, none⟩ := fun b o h => hb.cell (p := ⟨b, o, none⟩) h
  have froz : ∀ b o, b < wr.heap.size → w1.frozen? ⟨b, o, none⟩ = wr.frozen? ⟨b, o, none⟩ := fun b o h => hb.frozen (p := ⟨b, o, none⟩) h
  have y0 := (cell _ 0 (by omega)).trans c0
  have y1 := (cell _ 1 (by omega)).trans c1
  have y2 := (cell _ 2 (by omega)).trans c2
  have y3 := (cell _ 3 (by omega)).trans c3
  have x0 := (cell _ 0 (by omega)).trans z0
  have x1 := (cell _ 1 (by omega)).trans z1
  have x2 := (cell _ 2 (by omega)).trans z2
  have far : ∀ (p a : Addr) (v : Value) (W : World), p.block ≠ a.block → (W.setCell p v).cell? a = W.cell? a := fun p a v W h => World.cell?_setCell_far W p a v h
  have own : ∀ (j : Nat) (v old : Value), w1.cell? ⟨w.heap.size + 1 + 1 + 1 + 1, j, none⟩ = some old →
      (w1.setCell ⟨w.heap.size + 1 + 1 + 1 + 1, k, none⟩ v).cell? ⟨w.heap.size + 1 + 1 + 1 + 1, j, none⟩ = some (if k = j then v else old) := by
    intro j v old ho
    by_cases e : k = j
    · subst e; rw [if_pos rfl]; exact World.cell?_setCell_same _ _ _ ho
    · rw [if_neg e, World.cell?_setCell_other _ _ _ _ (by simpa using e)]; exact ho
  have t := three_set (w := w1.setCell ⟨w.heap.size + 1 + 1 + 1 + 1, k, none⟩ (.int .u64 (a : Int))) (b := w.heap.size + 1 + 1 + 1 + 1 + 1) (.bool false) (.int .u64 (hiN r' : Int)) (.int .u64 (loN r' : Int))
    ((far _ _ _ _ (by simp)).trans x0) ((far _ _ _ _ (by simp)).trans x1) ((far _ _ _ _ (by simp)).trans x2)
  have ite : ∀ (c : Prop) [Decidable c] (x y : Nat), (if c then Value.int .u64 (x : Int) else Value.int .u64 (y : Int)) = .int .u64 ((if c then x else y : Nat) : Int) := by
    intro c _ x y; split <;> rfl
  refine ⟨fun b o h => ?_, fun b o h => ?_, ?_, ?_, ?_, ?_, t.1, t.2.1, t.2.2, ?_, ?_⟩
  · rw [far _ _ _ _ (show _ ≠ b by show w.heap.size + 1 + 1 + 1 + 1 + 1 ≠ b; omega), far _ _ _ _ (show _ ≠ b by show w.heap.size + 1 + 1 + 1 + 1 + 1 ≠ b; omega), far _ _ _ _ (show _ ≠ b by show w.heap.size + 1 + 1 + 1 + 1 + 1 ≠ b; omega), far _ _ _ _ (show _ ≠ b by show w.heap.size + 1 + 1 + 1 + 1 ≠ b; omega), cell b o (by omega)]; exact hC b o h
  · simp only [World.frozen?_setCell]; rw [froz b o (by omega)]; exact hF b o h
  · rw [far _ _ _ _ (by simp), far _ _ _ _ (by simp), far _ _ _ _ (by simp), own 0 _ _ y0, ite]
  · rw [far _ _ _ _ (by simp), far _ _ _ _ (by simp), far _ _ _ _ (by simp), own 1 _ _ y1, ite]
  · rw [far _ _ _ _ (by simp), far _ _ _ _ (by simp), far _ _ _ _ (by simp), own 2 _ _ y2, ite]
  · rw [far _ _ _ _ (by simp), far _ _ _ _ (by simp), far _ _ _ _ (by simp), own 3 _ _ y3, ite]
  · have hb1 : Below w.heap.size w w1 := hB.trans (hb.mono (by omega))
    exact (((hb1.setCell (by show w.heap.size ≤ w.heap.size + 1 + 1 + 1 + 1; omega) _).setCell (by show w.heap.size ≤ w.heap.size + 1 + 1 + 1 + 1 + 1; omega) _).setCell (by show w.heap.size ≤ w.heap.size + 1 + 1 + 1 + 1 + 1; omega) _).setCell (by show w.heap.size ≤ w.heap.size + 1 + 1 + 1 + 1 + 1; omega) _
  · simp only [World.size_setCell]; omega

theorem four_set {w : World} {b : Nat} {x0 x1 x2 x3 : Value} (y0 y1 y2 y3 : Value) (h0 : w.cell? ⟨b, 0, none⟩ = some x0) (h1 : w.cell? ⟨b, 1, none⟩ = some x1) (h2 : w.cell? ⟨b, 2, none⟩ = some x2) (h3 : w.cell? ⟨b, 3, none⟩ = some x3) :
    ((((w.setCell ⟨b, 0, none⟩ y0).setCell ⟨b, 1, none⟩ y1).setCell ⟨b, 2, none⟩ y2).setCell ⟨b, 3, none⟩ y3).cell? ⟨b, 0, none⟩ = some y0 ∧
    ((((w.setCell ⟨b, 0, none⟩ y0).setCell ⟨b, 1, none⟩ y1).setCell ⟨b, 2, none⟩ y2).setCell ⟨b, 3, none⟩ y3).cell? ⟨b, 1, none⟩ = some y1 ∧
    ((((w.setCell ⟨b, 0, none⟩ y0).setCell ⟨b, 1, none⟩ y1).setCell ⟨b, 2, none⟩ y2).setCell ⟨b, 3, none⟩ y3).cell? ⟨b, 2, none⟩ = some y2 ∧
    ((((w.setCell ⟨b, 0, none⟩ y0).setCell ⟨b, 1, none⟩ y1).setCell ⟨b, 2, none⟩ y2).setCell ⟨b, 3, none⟩ y3).cell? ⟨b, 3, none⟩ = some y3 := by
  have t := three_set y0 y1 y2 h0 h1 h2
  have h3' : (((w.setCell ⟨b, 0, none⟩ y0).setCell ⟨b, 1, none⟩ y1).setCell ⟨b, 2, none⟩ y2).cell? ⟨b, 3, none⟩ = some x3 :=
    (World.cell?_setCell_other _ ⟨b, 2, none⟩ ⟨b, 3, none⟩ _ (by simp)).trans ((World.cell?_setCell_other _ ⟨b, 1, none⟩ ⟨b, 3, none⟩ _ (by simp)).trans ((World.cell?_setCell_other _ ⟨b, 0, none⟩ ⟨b, 3, none⟩ _ (by simp)).trans h3))
  exact ⟨(World.cell?_setCell_other _ ⟨b, 3, none⟩ ⟨b, 0, none⟩ _ (by simp)).trans t.1, (World.cell?_setCell_other _ ⟨b, 3, none⟩ ⟨b, 1, none⟩ _ (by simp)).trans t.2.1, (World.cell?_setCell_other _ ⟨b, 3, none⟩ ⟨b, 2, none⟩ _ (by simp)).trans t.2.2, World.cell?_setCell_same _ _ _ h3'⟩

theorem div_res (tmps : Array Value) (b : Nat) (W : World) {q0 q1 q2 q3 : Nat} {v0 v1 v2 : Value} (h4 : tmps.getD 4 undef = .pointer (some ⟨b, 0, none⟩)) (h5 : tmps.getD 5 undef = .pointer (some ⟨b + 1, 0, none⟩))
    (c0 : W.cell? ⟨b, 0, none⟩ = some (.int .u64 (q0 : Int))) (c1 : W.cell? ⟨b, 1, none⟩ = some (.int .u64 (q1 : Int))) (c2 : W.cell? ⟨b, 2, none⟩ = some (.int .u64 (q2 : Int))) (c3 : W.cell? ⟨b, 3, none⟩ = some (.int .u64 (q3 : Int)))
    (d0 : W.cell? ⟨b + 1, 0, none⟩ = some v0) (d1 : W.cell? ⟨b + 1, 1, none⟩ = some v1) (d2 : W.cell? ⟨b + 1, 2, none⟩ = some v2) :
    (results Tryd.f41 tmps).run Tryd.prog W = .ok (.tuple #[LV q0 q1 q2 q3, .agg #[v0, v1, v2]]) W := by
  have h4' : tmps[4]?.getD undef = .pointer (some ⟨b, 0, none⟩) := by rw [← h4]; simp
  have h5' : tmps[5]?.getD undef = .pointer (some ⟨b + 1, 0, none⟩) := by rw [← h5]; simp
  simp [results, Tryd.results41, go_sem, h4', h5', c0, c1, c2, c3, d0, d1, d2]

theorem div_end {w wr : World} {q d a0 a1 a2 a3 r : Nat} {dn : Bool} (h : DivW w wr q dn d a0 a1 a2 a3 r) (tmps : Array Value)
    (h4 : tmps.getD 4 undef = .pointer (some ⟨w.heap.size + 1 + 1, 0, none⟩)) (h5 : tmps.getD 5 undef = .pointer (some ⟨w.heap.size + 1 + 1 + 1, 0, none⟩)) :
    (results Tryd.f41 tmps).run Tryd.prog (((((((wr.setCell ⟨w.heap.size + 1 + 1, 0, none⟩ (.int .u64 (a0 : Int))).setCell ⟨w.heap.size + 1 + 1, 1, none⟩ (.int .u64 (a1 : Int))).setCell ⟨w.heap.size + 1 + 1, 2, none⟩ (.int .u64 (a2 : Int))).setCell ⟨w.heap.size + 1 + 1, 3, none⟩ (.int .u64 (a3 : Int))).setCell
      ⟨w.heap.size + 1 + 1 + 1, 0, none⟩ (.bool false)).setCell ⟨w.heap.size + 1 + 1 + 1, 1, none⟩ (.int .u64 (hiN r : Int))).setCell ⟨w.heap.size + 1 + 1 + 1, 2, none⟩ (.int .u64 (loN r : Int))).drew =
      .ok (.tuple #[LV a0 a1 a2 a3, MV false r]) (((((((wr.setCell ⟨w.heap.size + 1 + 1, 0, none⟩ (.int .u64 (a0 : Int))).setCell ⟨w.heap.size + 1 + 1, 1, none⟩ (.int .u64 (a1 : Int))).setCell ⟨w.heap.size + 1 + 1, 2, none⟩ (.int .u64 (a2 : Int))).setCell ⟨w.heap.size + 1 + 1, 3, none⟩ (.int .u64 (a3 : Int))).setCell
      ⟨w.heap.size + 1 + 1 + 1, 0, none⟩ (.bool false)).setCell ⟨w.heap.size + 1 + 1 + 1, 1, none⟩ (.int .u64 (hiN r : Int))).setCell ⟨w.heap.size + 1 + 1 + 1, 2, none⟩ (.int .u64 (loN r : Int))).drew := by
  obtain ⟨hC, hF, c0, c1, c2, c3, z0, z1, z2, hB, hz⟩ := h
  have e0 : wr.cell? ⟨w.heap.size + 1 + 1, 0, none⟩ = some (.int .u64 0) := by rw [hC _ _ (by omega)]; simp [go_sem]
  have e1 : wr.cell? ⟨w.heap.size + 1 + 1, 1, none⟩ = some (.int .u64 0) := by rw [hC _ _ (by omega)]; simp [go_sem]
  have e2 : wr.cell? ⟨w.heap.size + 1 + 1, 2, none⟩ = some (.int .u64 0) := by rw [hC _ _ (by omega)]; simp [go_sem]
  have e3 : wr.cell? ⟨w.heap.size + 1 + 1, 3, none⟩ = some (.int .u64 0) := by rw [hC _ _ (by omega)]; simp [go_sem]
  have g0 : wr.cell? ⟨w.heap.size + 1 + 1 + 1, 0, none⟩ = some (.bool false) := by rw [hC _ _ (by omega)]; simp [go_sem]
  have g1 : wr.cell? ⟨w.heap.size + 1 + 1 + 1, 1, none⟩ = some (.int .u64 0) := by rw [hC _ _ (by omega)]; simp [go_sem]
  have g2 : wr.cell? ⟨w.heap.size + 1 + 1 + 1, 2, none⟩ = some (.int .u64 0) := by rw [hC _ _ (by omega)]; simp [go_sem]
  have far : ∀ (b b' o o' : Nat) (v : Value) (W : World), b ≠ b' → (W.setCell ⟨b, o, none⟩ v).cell? ⟨b', o', none⟩ = W.cell? ⟨b', o', none⟩ := fun b b' o o' v W h => World.cell?_setCell_far W _ _ v h
  have t := four_set (.int .u64 (a0 : Int)) (.int .u64 (a1 : Int)) (.int .u64 (a2 : Int)) (.int .u64 (a3 : Int)) e0 e1 e2 e3
  have up : ∀ (o : Nat) {u : Value}, wr.cell? ⟨w.heap.size + 1 + 1 + 1, o, none⟩ = some u → ((((wr.setCell ⟨w.heap.size + 1 + 1, 0, none⟩ (.int .u64 (a0 : Int))).setCell ⟨w.heap.size + 1 + 1, 1, none⟩ (.int .u64 (a1 : Int))).setCell ⟨w.heap.size + 1 + 1, 2, none⟩ (.int .u64 (a2 : Int))).setCell ⟨w.heap.size + 1 + 1, 3, none⟩ (.int .u64 (a3 : Int))).cell? ⟨w.heap.size + 1 + 1 + 1, o, none⟩ = some u :=
    fun o u h => (far _ _ _ _ _ _ (by omega)).trans ((far _ _ _ _ _ _ (by omega)).trans ((far _ _ _ _ _ _ (by omega)).trans ((far _ _ _ _ _ _ (by omega)).trans h)))
  have t2 := three_set (.bool false) (.int .u64 (hiN r : Int)) (.int .u64 (loN r : Int)) (up 0 g0) (up 1 g1) (up 2 g2)
  have dr : ∀ (W : World) (b o : Nat) {u : Value}, W.cell? ⟨b, o, none⟩ = some u → W.drew.cell? ⟨b, o, none⟩ = some u := fun _ _ _ _ h => h
  exact div_res tmps (w.heap.size + 1 + 1) _ h4 h5
    (dr _ _ _ ((far _ _ _ _ _ _ (by omega)).trans ((far _ _ _ _ _ _ (by omega)).trans ((far _ _ _ _ _ _ (by omega)).trans t.1))))
    (dr _ _ _ ((far _ _ _ _ _ _ (by omega)).trans ((far _ _ _ _ _ _ (by omega)).trans ((far _ _ _ _ _ _ (by omega)).trans t.2.1))))
    (dr _ _ _ ((far _ _ _ _ _ _ (by omega)).trans ((far _ _ _ _ _ _ (by omega)).trans ((far _ _ _ _ _ _ (by omega)).trans t.2.2.1))))
    (dr _ _ _ ((far _ _ _ _ _ _ (by omega)).trans ((far _ _ _ _ _ _ (by omega)).trans ((far _ _ _ _ _ _ (by omega)).trans t.2.2.2))))
    (dr _ _ _ t2.1) (dr _ _ _ t2.2.1) (dr _ _ _ t2.2.2)

def DivRel (w : World) (q : Nat) (dn : Bool) (d : Nat) (t : Value) (wr : World) : Prop :=
  (t = .int .i64 3 ∧ DivW w wr q dn d 0 0 0 0 0) ∨
  (∃ q3 r3, t = .int .i64 2 ∧ DE d 0 (l3 q) q3 r3 ∧ DivW w wr q dn d 0 0 0 q3 r3) ∨
  (∃ q3 r3 q2 r2, t = .int .i64 1 ∧ DE d 0 (l3 q) q3 r3 ∧ DE d r3 (l2 q) q2 r2 ∧ DivW w wr q dn d 0 0 q2 q3 r2) ∨
  (∃ q3 r3 q2 r2 q1 r1, t = .int .i64 0 ∧ DE d 0 (l3 q) q3 r3 ∧ DE d r3 (l2 q) q2 r2 ∧ DE d r2 (l1 q) q1 r1 ∧ DivW w wr q dn d 0 q1 q2 q3 r1) ∨
  (∃ q3 r3 q2 r2 q1 r1 q0 r0, t = .int .i64 (-1) ∧ DE d 0 (l3 q) q3 r3 ∧ DE d r3 (l2 q) q2 r2 ∧ DE d r2 (l1 q) q1 r1 ∧ DE d r1 (l0 q) q0 r0 ∧ DivW w wr q dn d q0 q1 q2 q3 r0)

set_option maxRecDepth 100000 in
set_option maxHeartbeats 1000000 in
theorem divide_m (q d : Nat) (dn : Bool) (h0 : 0 < d) (hd : d < 170141183460469231731687303715884105728) (hq : q < 115792089237316195423570985008687907853269984665640564039457584007913129639936) (w : World) :
    Calls Tryd.prog 41 #[QV q, MV dn d] w fun e w' => e = .returned (.tuple #[QV (q / d), MV false (q % d)]) ∧ Below w.heap.size w w' := by
  have H := Lib.hid (And.intro h0 (And.intro hd hq))
  have L := Lib.hid (l_lt q)
  clear h0 hd hq
  go_enter Tryd.func41, Tryd.ntmps41
  go_upto_region 4 with fail
  go_loopw [8] (fun t8 wr => DivRel w q dn d t8 wr) (fun t8 _ => (intOf t8 + 1).toNat)
  case atStart =>
    refine .inl ⟨rfl, fun _ _ _ => rfl, fun _ _ _ => rfl, ?_, ?_, ?_, ?_, ?_, ?_, ?_, ?_, ?_⟩
    all_goals (try rw [hiN0])
    all_goals (try rw [loN0])
    all_goals (try (go_simp; done))
    all_goals (repeat (first | (with_reducible exact Below.refl _ _) | (with_reducible refine Below.drew ?_) | (refine Below.setCell ?_ (by first | exact Nat.le_refl _ | (simp; done) | (simp; omega) | omega) _) | (refine Below.alloc ?_ (by first | exact Nat.le_refl _ | (simp; done) | (simp; omega) | omega) _) | (refine Below.trans ?_ (Below.mono (by assumption) (by first | exact Nat.le_refl _ | (simp; done) | (simp; omega) | omega)))))
  case round =>
    rcases hrel with ⟨rfl, hW⟩ | ⟨q3, r3, rfl, d3, hW⟩ | ⟨q3, r3, q2, r2, rfl, d3, d2, hW⟩ | ⟨q3, r3, q2, r2, q1, r1, rfl, d3, d2, d1, hW⟩ | ⟨q3, r3, q2, r2, q1, r1, q0, r0, rfl, d3, d2, d1, d0, hW⟩
    · have S := Lib.hid (fun w1 hb => hW.step (w1 := w1) hb 3 (by omega) (dgQ 0 (l3 q) d) (dgR 0 (l3 q) d))
      have D := Lib.hid (de_mk H.out.1 L.out.2.2.2)
      have C1 := Lib.hid (digit_m false dn 0 (l3 q) d H.out.1 H.out.2.1 L.out.2.2.2)
      obtain ⟨hC, hF, c0, c1, c2, c3, z0, z1, z2, hB, hz⟩ := hW
      obtain ⟨_, _, _, _, _, _⟩ := zs6 hz
      go_upto_region 6 with fail
      refine wp_region_held_drew (S := fun w' => w'.cell? ⟨w.heap.size, 3, none⟩ = some (.int .u64 (l3 q : Int)) ∧ w'.cell? ⟨w.heap.size + 1, 0, none⟩ = some (.bool dn) ∧ w'.cell? ⟨w.heap.size + 1, 1, none⟩ = some (.int .u64 (hiN d : Int)) ∧ w'.cell? ⟨w.heap.size + 1, 2, none⟩ = some (.int .u64 (loN d : Int))) (by kernel_rfl) (by refine ⟨?_, ?_, ?_, ?_⟩ <;> go_simp) (fun hHeld => ?_)
      refine wpAnyH_take (i := 0) (v := ?_) rfl (by kernel_rfl) (by kernel_rfl) (by kernel_rfl) (fun _ _ _ h => h) (Or.inl ⟨by rfl, ?_⟩) hHeld ?_
      rotate_left
      · (intro w0 hSw; (try dsimp only at hSw); (first | (go_simp; done) | (go_simp; with_reducible rfl)))
      (try simp only [List.getElem_toArray, List.getElem_cons_zero, List.getElem_cons_succ, Act.put, List.setIfInBounds_toArray, List.set_cons_zero, List.set_cons_succ])
      refine wpAnyH_take (i := 2) (v := ?_) rfl (by kernel_rfl) (by kernel_rfl) (by kernel_rfl) (fun _ _ _ h => h) (Or.inl ⟨by rfl, ?_⟩) hHeld ?_
      rotate_left
      · (intro w0 hSw; (try dsimp only at hSw); (first | (go_simp; done) | (go_simp; with_reducible rfl)))
      (try simp only [List.getElem_toArray, List.getElem_cons_zero, List.getElem_cons_succ, Act.put, List.setIfInBounds_toArray, List.set_cons_zero, List.set_cons_succ])
      refine wpAnyH_take (i := 3) (v := ?_) rfl (by kernel_rfl) (by kernel_rfl) (by kernel_rfl) (fun _ _ _ h => h) (Or.inl ⟨by rfl, ?_⟩) hHeld ?_
      rotate_left
      · (intro w0 hSw; (try dsimp only at hSw); (first | (go_simp; done) | (go_simp; with_reducible rfl)))
      (try simp only [List.getElem_toArray, List.getElem_cons_zero, List.getElem_cons_succ, Act.put, List.setIfInBounds_toArray, List.set_cons_zero, List.set_cons_succ])
      refine wpAnyH_take (i := 4) (v := ?_) rfl (by kernel_rfl) (by kernel_rfl) (by kernel_rfl) (fun _ _ _ h => h) (Or.inl ⟨by rfl, ?_⟩) hHeld ?_
      rotate_left
      · (intro w0 hSw; (try dsimp only at hSw); (first | (go_simp; done) | (go_simp; with_reducible rfl)))
      (try simp only [List.getElem_toArray, List.getElem_cons_zero, List.getElem_cons_succ, Act.put, List.setIfInBounds_toArray, List.set_cons_zero, List.set_cons_succ])
      refine wpAnyH_take (i := 5) (v := ?_) rfl (by kernel_rfl) (by kernel_rfl) (by kernel_rfl) (fun _ _ _ h => h) (Or.inl ⟨by rfl, ?_⟩) hHeld ?_
      rotate_left
      · (intro w0 hSw; (try dsimp only at hSw); (first | (go_simp; done) | (go_simp; with_reducible rfl)))
      (try simp only [List.getElem_toArray, List.getElem_cons_zero, List.getElem_cons_succ, Act.put, List.setIfInBounds_toArray, List.set_cons_zero, List.set_cons_succ])
      refine wpAnyH_ready (rs := [1]) (by kernel_rfl) (by simp) (AllReadyH.cons rfl (fun K hK => ?_) AllReadyH.nil)
      go_simp
      refine hK.out _ _ (by refine ⟨?_, ?_, ?_, ?_⟩ <;> go_simp) (fun hHeld2 => ?_)
      clear hK K hHeld; have hHeld := hHeld2; clear hHeld2
      (try simp only [List.getElem_toArray, List.getElem_cons_zero, List.getElem_cons_succ, Act.put, List.setIfInBounds_toArray, List.set_cons_zero, List.set_cons_succ])
      refine wpAnyH_ready (rs := [6]) (by kernel_rfl) (by simp) (AllReadyH.cons rfl (fun K hK => ?_) AllReadyH.nil)
      go_simp
      refine (C1.out _).mono ?_; rintro e w1 ⟨rfl, hb1⟩; obtain ⟨hc1, hf1⟩ := bcell hb1; simp only [World.size_drew, World.cell?_drew, World.frozen?_drew] at hc1 hf1; have hz1 := hb1.size; (try simp only [World.size_drew] at hz1); obtain ⟨_, _, _, _, _, _⟩ := zs6 (Nat.le_trans hz hz1); (try dsimp only)
      refine hK.out _ _ (by refine ⟨?_, ?_, ?_, ?_⟩ <;> go_simp) (fun hHeld2 => ?_)
      clear hK K hHeld; have hHeld := hHeld2; clear hHeld2
      (try simp only [List.getElem_toArray, List.getElem_cons_zero, List.getElem_cons_succ, Act.put, List.setIfInBounds_toArray, List.set_cons_zero, List.set_cons_succ])
      refine wpAnyH_take (i := 7) (v := ?_) rfl (by kernel_rfl) (by kernel_rfl) (by kernel_rfl) (fun _ _ _ h => h) (Or.inl ⟨by rfl, ?_⟩) hHeld ?_
      rotate_left
      · (intro w0 hSw; (try dsimp only at hSw); (first | (go_simp; done) | (go_simp; with_reducible rfl)))
      (try simp only [List.getElem_toArray, List.getElem_cons_zero, List.getElem_cons_succ, Act.put, List.setIfInBounds_toArray, List.set_cons_zero, List.set_cons_succ])
      refine wpAnyH_take (i := 8) (v := ?_) rfl (by kernel_rfl) (by kernel_rfl) (by kernel_rfl) (fun _ _ _ h => h) (Or.inl ⟨by rfl, ?_⟩) hHeld ?_
      rotate_left
      · (intro w0 hSw; (try dsimp only at hSw); (first | (go_simp; done) | (go_simp; with_reducible rfl)))
      (try simp only [List.getElem_toArray, List.getElem_cons_zero, List.getElem_cons_succ, Act.put, List.setIfInBounds_toArray, List.set_cons_zero, List.set_cons_succ])
      refine wpAnyH_take (i := 9) (v := ?_) rfl (by kernel_rfl) (by kernel_rfl) (by kernel_rfl) (fun _ _ _ h => h) (Or.inl ⟨by rfl, ?_⟩) hHeld ?_
      rotate_left
      · (intro w0 hSw; (try dsimp only at hSw); (first | (go_simp; done) | (go_simp; with_reducible rfl)))
      (try simp only [List.getElem_toArray, List.getElem_cons_zero, List.getElem_cons_succ, Act.put, List.setIfInBounds_toArray, List.set_cons_zero, List.set_cons_succ])
      refine wpAnyH_take (i := 10) (v := ?_) rfl (by kernel_rfl) (by kernel_rfl) (by kernel_rfl) (fun _ _ _ h => h) (Or.inl ⟨by rfl, ?_⟩) hHeld ?_
      rotate_left
      · (intro w0 hSw; (try dsimp only at hSw); (first | (go_simp; done) | (go_simp; with_reducible rfl)))
      (try simp only [List.getElem_toArray, List.getElem_cons_zero, List.getElem_cons_succ, Act.put, List.setIfInBounds_toArray, List.set_cons_zero, List.set_cons_succ])
      refine wpAnyH_ready (rs := [11]) (by kernel_rfl) (by simp) (AllReadyH.cons rfl (fun K hK => ?_) AllReadyH.nil)
      go_simp
      refine hK.out _ _ (by refine ⟨?_, ?_, ?_, ?_⟩ <;> go_simp) (fun hHeld2 => ?_)
      clear hK K hHeld; have hHeld := hHeld2; clear hHeld2
      (try simp only [List.getElem_toArray, List.getElem_cons_zero, List.getElem_cons_succ, Act.put, List.setIfInBounds_toArray, List.set_cons_zero, List.set_cons_succ])
      refine wpAnyH_ready (rs := [12]) (by kernel_rfl) (by simp) (AllReadyH.cons rfl (fun K hK => ?_) AllReadyH.nil)
      go_simp
      refine hK.out _ _ (by refine ⟨?_, ?_, ?_, ?_⟩ <;> go_simp) (fun hHeld2 => ?_)
      clear hK K hHeld; have hHeld := hHeld2; clear hHeld2
      (try simp only [List.getElem_toArray, List.getElem_cons_zero, List.getElem_cons_succ, Act.put, List.setIfInBounds_toArray, List.set_cons_zero, List.set_cons_succ])
      refine wpAnyH_done (by kernel_rfl) ?_ _
      clear hHeld
      go_wp2
      exact ⟨.inr (.inl ⟨_, _, rfl, D.out, S.out w1 ((Below.refl _ _).drew.trans hb1)⟩), by simp [intOf]⟩
    · have S := Lib.hid (fun w1 hb => hW.step (w1 := w1) hb 2 (by omega) (dgQ r3 (l2 q) d) (dgR r3 (l2 q) d))
      have D := Lib.hid (de_mk d3.lt L.out.2.2.1)
      have C1 := Lib.hid (digit_m false dn r3 (l2 q) d d3.lt H.out.2.1 L.out.2.2.1)
      obtain ⟨hC, hF, c0, c1, c2, c3, z0, z1, z2, hB, hz⟩ := hW
      obtain ⟨_, _, _, _, _, _⟩ := zs6 hz
      go_upto_region 6 with fail
      refine wp_region_held_drew (S := fun w' => w'.cell? ⟨w.heap.size, 2, none⟩ = some (.int .u64 (l2 q : Int)) ∧ w'.cell? ⟨w.heap.size + 1, 0, none⟩ = some (.bool dn) ∧ w'.cell? ⟨w.heap.size + 1, 1, none⟩ = some (.int .u64 (hiN d : Int)) ∧ w'.cell? ⟨w.heap.size + 1, 2, none⟩ = some (.int .u64 (loN d : Int))) (by kernel_rfl) (by refine ⟨?_, ?_, ?_, ?_⟩ <;> go_simp) (fun hHeld => ?_)
      refine wpAnyH_take (i := 0) (v := ?_) rfl (by kernel_rfl) (by kernel_rfl) (by kernel_rfl) (fun _ _ _ h => h) (Or.inl ⟨by rfl, ?_⟩) hHeld ?_
      rotate_left
      · (intro w0 hSw; (try dsimp only at hSw); (first | (go_simp; done) | (go_simp; with_reducible rfl)))
      (try simp only [List.getElem_toArray, List.getElem_cons_zero, List.getElem_cons_succ, Act.put, List.setIfInBounds_toArray, List.set_cons_zero, List.set_cons_succ])
      refine wpAnyH_take (i := 2) (v := ?_) rfl (by kernel_rfl) (by kernel_rfl) (by kernel_rfl) (fun _ _ _ h => h) (Or.inl ⟨by rfl, ?_⟩) hHeld ?_
      rotate_left
      · (intro w0 hSw; (try dsimp only at hSw); (first | (go_simp; done) | (go_simp; with_reducible rfl)))
      (try simp only [List.getElem_toArray, List.getElem_cons_zero, List.getElem_cons_succ, Act.put, List.setIfInBounds_toArray, List.set_cons_zero, List.set_cons_succ])
      refine wpAnyH_take (i := 3) (v := ?_) rfl (by kernel_rfl) (by kernel_rfl) (by kernel_rfl) (fun _ _ _ h => h) (Or.inl ⟨by rfl, ?_⟩) hHeld ?_
      rotate_left
      · (intro w0 hSw; (try dsimp only at hSw); (first | (go_simp; done) | (go_simp; with_reducible rfl)))
      (try simp only [List.getElem_toArray, List.getElem_cons_zero, List.getElem_cons_succ, Act.put, List.setIfInBounds_toArray, List.set_cons_zero, List.set_cons_succ])
      refine wpAnyH_take (i := 4) (v := ?_) rfl (by kernel_rfl) (by kernel_rfl) (by kernel_rfl) (fun _ _ _ h => h) (Or.inl ⟨by rfl, ?_⟩) hHeld ?_
      rotate_left
      · (intro w0 hSw; (try dsimp only at hSw); (first | (go_simp; done) | (go_simp; with_reducible rfl)))
      (try simp only [List.getElem_toArray, List.getElem_cons_zero, List.getElem_cons_succ, Act.put, List.setIfInBounds_toArray, List.set_cons_zero, List.set_cons_succ])
      refine wpAnyH_take (i := 5) (v := ?_) rfl (by kernel_rfl) (by kernel_rfl) (by kernel_rfl) (fun _ _ _ h => h) (Or.inl ⟨by rfl, ?_⟩) hHeld ?_
      rotate_left
      · (intro w0 hSw; (try dsimp only at hSw); (first | (go_simp; done) | (go_simp; with_reducible rfl)))
      (try simp only [List.getElem_toArray, List.getElem_cons_zero, List.getElem_cons_succ, Act.put, List.setIfInBounds_toArray, List.set_cons_zero, List.set_cons_succ])
      refine wpAnyH_ready (rs := [1]) (by kernel_rfl) (by simp) (AllReadyH.cons rfl (fun K hK => ?_) AllReadyH.nil)
      go_simp
      refine hK.out _ _ (by refine ⟨?_, ?_, ?_, ?_⟩ <;> go_simp) (fun hHeld2 => ?_)
      clear hK K hHeld; have hHeld := hHeld2; clear hHeld2
      (try simp only [List.getElem_toArray, List.getElem_cons_zero, List.getElem_cons_succ, Act.put, List.setIfInBounds_toArray, List.set_cons_zero, List.set_cons_succ])
      refine wpAnyH_ready (rs := [6]) (by kernel_rfl) (by simp) (AllReadyH.cons rfl (fun K hK => ?_) AllReadyH.nil)
      go_simp
      refine (C1.out _).mono ?_; rintro e w1 ⟨rfl, hb1⟩; obtain ⟨hc1, hf1⟩ := bcell hb1; simp only [World.size_drew, World.cell?_drew, World.frozen?_drew] at hc1 hf1; have hz1 := hb1.size; (try simp only [World.size_drew] at hz1); obtain ⟨_, _, _, _, _, _⟩ := zs6 (Nat.le_trans hz hz1); (try dsimp only)
      refine hK.out _ _ (by refine ⟨?_, ?_, ?_, ?_⟩ <;> go_simp) (fun hHeld2 => ?_)
      clear hK K hHeld; have hHeld := hHeld2; clear hHeld2
      (try simp only [List.getElem_toArray, List.getElem_cons_zero, List.getElem_cons_succ, Act.put, List.setIfInBounds_toArray, List.set_cons_zero, List.set_cons_succ])
      refine wpAnyH_take (i := 7) (v := ?_) rfl (by kernel_rfl) (by kernel_rfl) (by kernel_rfl) (fun _ _ _ h => h) (Or.inl ⟨by rfl, ?_⟩) hHeld ?_
      rotate_left
      · (intro w0 hSw; (try dsimp only at hSw); (first | (go_simp; done) | (go_simp; with_reducible rfl)))
      (try simp only [List.getElem_toArray, List.getElem_cons_zero, List.getElem_cons_succ, Act.put, List.setIfInBounds_toArray, List.set_cons_zero, List.set_cons_succ])
      refine wpAnyH_take (i := 8) (v := ?_) rfl (by kernel_rfl) (by kernel_rfl) (by kernel_rfl) (fun _ _ _ h => h) (Or.inl ⟨by rfl, ?_⟩) hHeld ?_
      rotate_left
      · (intro w0 hSw; (try dsimp only at hSw); (first | (go_simp; done) | (go_simp; with_reducible rfl)))
      (try simp only [List.getElem_toArray, List.getElem_cons_zero, List.getElem_cons_succ, Act.put, List.setIfInBounds_toArray, List.set_cons_zero, List.set_cons_succ])
      refine wpAnyH_take (i := 9) (v := ?_) rfl (by kernel_rfl) (by kernel_rfl) (by kernel_rfl) (fun _ _ _ h => h) (Or.inl ⟨by rfl, ?_⟩) hHeld ?_
      rotate_left
      · (intro w0 hSw; (try dsimp only at hSw); (first | (go_simp; done) | (go_simp; with_reducible rfl)))
      (try simp only [List.getElem_toArray, List.getElem_cons_zero, List.getElem_cons_succ, Act.put, List.setIfInBounds_toArray, List.set_cons_zero, List.set_cons_succ])
      refine wpAnyH_take (i := 10) (v := ?_) rfl (by kernel_rfl) (by kernel_rfl) (by kernel_rfl) (fun _ _ _ h => h) (Or.inl ⟨by rfl, ?_⟩) hHeld ?_
      rotate_left
      · (intro w0 hSw; (try dsimp only at hSw); (first | (go_simp; done) | (go_simp; with_reducible rfl)))
      (try simp only [List.getElem_toArray, List.getElem_cons_zero, List.getElem_cons_succ, Act.put, List.setIfInBounds_toArray, List.set_cons_zero, List.set_cons_succ])
      refine wpAnyH_ready (rs := [11]) (by kernel_rfl) (by simp) (AllReadyH.cons rfl (fun K hK => ?_) AllReadyH.nil)
      go_simp
      refine hK.out _ _ (by refine ⟨?_, ?_, ?_, ?_⟩ <;> go_simp) (fun hHeld2 => ?_)
      clear hK K hHeld; have hHeld := hHeld2; clear hHeld2
      (try simp only [List.getElem_toArray, List.getElem_cons_zero, List.getElem_cons_succ, Act.put, List.setIfInBounds_toArray, List.set_cons_zero, List.set_cons_succ])
      refine wpAnyH_ready (rs := [12]) (by kernel_rfl) (by simp) (AllReadyH.cons rfl (fun K hK => ?_) AllReadyH.nil)
      go_simp
      refine hK.out _ _ (by refine ⟨?_, ?_, ?_, ?_⟩ <;> go_simp) (fun hHeld2 => ?_)
      clear hK K hHeld; have hHeld := hHeld2; clear hHeld2
      (try simp only [List.getElem_toArray, List.getElem_cons_zero, List.getElem_cons_succ, Act.put, List.setIfInBounds_toArray, List.set_cons_zero, List.set_cons_succ])
      refine wpAnyH_done (by kernel_rfl) ?_ _
      clear hHeld
      go_wp2
      exact ⟨.inr (.inr (.inl ⟨_, _, _, _, rfl, d3, D.out, S.out w1 ((Below.refl _ _).drew.trans hb1)⟩)), by simp [intOf]⟩
    · have S := Lib.hid (fun w1 hb => hW.step (w1 := w1) hb 1 (by omega) (dgQ r2 (l1 q) d) (dgR r2 (l1 q) d))
      have D := Lib.hid (de_mk d2.lt L.out.2.1)
      have C1 := Lib.hid (digit_m false dn r2 (l1 q) d d2.lt H.out.2.1 L.out.2.1)
      obtain ⟨hC, hF, c0, c1, c2, c3, z0, z1, z2, hB, hz⟩ := hW
      obtain ⟨_, _, _, _, _, _⟩ := zs6 hz
      go_upto_region 6 with fail
      refine wp_region_held_drew (S := fun w' => w'.cell? ⟨w.heap.size, 1, none⟩ = some (.int .u64 (l1 q : Int)) ∧ w'.cell? ⟨w.heap.size + 1, 0, none⟩ = some (.bool dn) ∧ w'.cell? ⟨w.heap.size + 1, 1, none⟩ = some (.int .u64 (hiN d : Int)) ∧ w'.cell? ⟨w.heap.size + 1, 2, none⟩ = some (.int .u64 (loN d : Int))) (by kernel_rfl) (by refine ⟨?_, ?_, ?_, ?_⟩ <;> go_simp) (fun hHeld => ?_)
      refine wpAnyH_take (i := 0) (v := ?_) rfl (by kernel_rfl) (by kernel_rfl) (by kernel_rfl) (fun _ _ _ h => h) (Or.inl ⟨by rfl, ?_⟩) hHeld ?_
      rotate_left
      · (intro w0 hSw; (try dsimp only at hSw); (first | (go_simp; done) | (go_simp; with_reducible rfl)))
      (try simp only [List.getElem_toArray, List.getElem_cons_zero, List.getElem_cons_succ, Act.put, List.setIfInBounds_toArray, List.set_cons_zero, List.set_cons_succ])
      refine wpAnyH_take (i := 2) (v := ?_) rfl (by kernel_rfl) (by kernel_rfl) (by kernel_rfl) (fun _ _ _ h => h) (Or.inl ⟨by rfl, ?_⟩) hHeld ?_
      rotate_left
      · (intro w0 hSw; (try dsimp only at hSw); (first | (go_simp; done) | (go_simp; with_reducible rfl)))
      (try simp only [List.getElem_toArray, List.getElem_cons_zero, List.getElem_cons_succ, Act.put, List.setIfInBounds_toArray, List.set_cons_zero, List.set_cons_succ])
      refine wpAnyH_take (i := 3) (v := ?_) rfl (by kernel_rfl) (by kernel_rfl) (by kernel_rfl) (fun _ _ _ h => h) (Or.inl ⟨by rfl, ?_⟩) hHeld ?_
      rotate_left
      · (intro w0 hSw; (try dsimp only at hSw); (first | (go_simp; done) | (go_simp; with_reducible rfl)))
      (try simp only [List.getElem_toArray, List.getElem_cons_zero, List.getElem_cons_succ, Act.put, List.setIfInBounds_toArray, List.set_cons_zero, List.set_cons_succ])
      refine wpAnyH_take (i := 4) (v := ?_) rfl (by kernel_rfl) (by kernel_rfl) (by kernel_rfl) (fun _ _ _ h => h) (Or.inl ⟨by rfl, ?_⟩) hHeld ?_
      rotate_left
      · (intro w0 hSw; (try dsimp only at hSw); (first | (go_simp; done) | (go_simp; with_reducible rfl)))
      (try simp only [List.getElem_toArray, List.getElem_cons_zero, List.getElem_cons_succ, Act.put, List.setIfInBounds_toArray, List.set_cons_zero, List.set_cons_succ])
      refine wpAnyH_take (i := 5) (v := ?_) rfl (by kernel_rfl) (by kernel_rfl) (by kernel_rfl) (fun _ _ _ h => h) (Or.inl ⟨by rfl, ?_⟩) hHeld ?_
      rotate_left
      · (intro w0 hSw; (try dsimp only at hSw); (first | (go_simp; done) | (go_simp; with_reducible rfl)))
      (try simp only [List.getElem_toArray, List.getElem_cons_zero, List.getElem_cons_succ, Act.put, List.setIfInBounds_toArray, List.set_cons_zero, List.set_cons_succ])
      refine wpAnyH_ready (rs := [1]) (by kernel_rfl) (by simp) (AllReadyH.cons rfl (fun K hK => ?_) AllReadyH.nil)
      go_simp
      refine hK.out _ _ (by refine ⟨?_, ?_, ?_, ?_⟩ <;> go_simp) (fun hHeld2 => ?_)
      clear hK K hHeld; have hHeld := hHeld2; clear hHeld2
      (try simp only [List.getElem_toArray, List.getElem_cons_zero, List.getElem_cons_succ, Act.put, List.setIfInBounds_toArray, List.set_cons_zero, List.set_cons_succ])
      refine wpAnyH_ready (rs := [6]) (by kernel_rfl) (by simp) (AllReadyH.cons rfl (fun K hK => ?_) AllReadyH.nil)
      go_simp
      refine (C1.out _).mono ?_; rintro e w1 ⟨rfl, hb1⟩; obtain ⟨hc1, hf1⟩ := bcell hb1; simp only [World.size_drew, World.cell?_drew, World.frozen?_drew] at hc1 hf1; have hz1 := hb1.size; (try simp only [World.size_drew] at hz1); obtain ⟨_, _, _, _, _, _⟩ := zs6 (Nat.le_trans hz hz1); (try dsimp only)
      refine hK.out _ _ (by refine ⟨?_, ?_, ?_, ?_⟩ <;> go_simp) (fun hHeld2 => ?_)
      clear hK K hHeld; have hHeld := hHeld2; clear hHeld2
      (try simp only [List.getElem_toArray, List.getElem_cons_zero, List.getElem_cons_succ, Act.put, List.setIfInBounds_toArray, List.set_cons_zero, List.set_cons_succ])
      refine wpAnyH_take (i := 7) (v := ?_) rfl (by kernel_rfl) (by kernel_rfl) (by kernel_rfl) (fun _ _ _ h => h) (Or.inl ⟨by rfl, ?_⟩) hHeld ?_
      rotate_left
      · (intro w0 hSw; (try dsimp only at hSw); (first | (go_simp; done) | (go_simp; with_reducible rfl)))
      (try simp only [List.getElem_toArray, List.getElem_cons_zero, List.getElem_cons_succ, Act.put, List.setIfInBounds_toArray, List.set_cons_zero, List.set_cons_succ])
      refine wpAnyH_take (i := 8) (v := ?_) rfl (by kernel_rfl) (by kernel_rfl) (by kernel_rfl) (fun _ _ _ h => h) (Or.inl ⟨by rfl, ?_⟩) hHeld ?_
      rotate_left
      · (intro w0 hSw; (try dsimp only at hSw); (first | (go_simp; done) | (go_simp; with_reducible rfl)))
      (try simp only [List.getElem_toArray, List.getElem_cons_zero, List.getElem_cons_succ, Act.put, List.setIfInBounds_toArray, List.set_cons_zero, List.set_cons_succ])
      refine wpAnyH_take (i := 9) (v := ?_) rfl (by kernel_rfl) (by kernel_rfl) (by kernel_rfl) (fun _ _ _ h => h) (Or.inl ⟨by rfl, ?_⟩) hHeld ?_
      rotate_left
      · (intro w0 hSw; (try dsimp only at hSw); (first | (go_simp; done) | (go_simp; with_reducible rfl)))
      (try simp only [List.getElem_toArray, List.getElem_cons_zero, List.getElem_cons_succ, Act.put, List.setIfInBounds_toArray, List.set_cons_zero, List.set_cons_succ])
      refine wpAnyH_take (i := 10) (v := ?_) rfl (by kernel_rfl) (by kernel_rfl) (by kernel_rfl) (fun _ _ _ h => h) (Or.inl ⟨by rfl, ?_⟩) hHeld ?_
      rotate_left
      · (intro w0 hSw; (try dsimp only at hSw); (first | (go_simp; done) | (go_simp; with_reducible rfl)))
      (try simp only [List.getElem_toArray, List.getElem_cons_zero, List.getElem_cons_succ, Act.put, List.setIfInBounds_toArray, List.set_cons_zero, List.set_cons_succ])
      refine wpAnyH_ready (rs := [11]) (by kernel_rfl) (by simp) (AllReadyH.cons rfl (fun K hK => ?_) AllReadyH.nil)
      go_simp
      refine hK.out _ _ (by refine ⟨?_, ?_, ?_, ?_⟩ <;> go_simp) (fun hHeld2 => ?_)
      clear hK K hHeld; have hHeld := hHeld2; clear hHeld2
      (try simp only [List.getElem_toArray, List.getElem_cons_zero, List.getElem_cons_succ, Act.put, List.setIfInBounds_toArray, List.set_cons_zero, List.set_cons_succ])
      refine wpAnyH_ready (rs := [12]) (by kernel_rfl) (by simp) (AllReadyH.cons rfl (fun K hK => ?_) AllReadyH.nil)
      go_simp
      refine hK.out _ _ (by refine ⟨?_, ?_, ?_, ?_⟩ <;> go_simp) (fun hHeld2 => ?_)
      clear hK K hHeld; have hHeld := hHeld2; clear hHeld2
      (try simp only [List.getElem_toArray, List.getElem_cons_zero, List.getElem_cons_succ, Act.put, List.setIfInBounds_toArray, List.set_cons_zero, List.set_cons_succ])
      refine wpAnyH_done (by kernel_rfl) ?_ _
      clear hHeld
      go_wp2
      exact ⟨.inr (.inr (.inr (.inl ⟨_, _, _, _, _, _, rfl, d3, d2, D.out, S.out w1 ((Below.refl _ _).drew.trans hb1)⟩))), by simp [intOf]⟩
    · have S := Lib.hid (fun w1 hb => hW.step (w1 := w1) hb 0 (by omega) (dgQ r1 (l0 q) d) (dgR r1 (l0 q) d))
      have D := Lib.hid (de_mk d1.lt L.out.1)
      have C1 := Lib.hid (digit_m false dn r1 (l0 q) d d1.lt H.out.2.1 L.out.1)
      obtain ⟨hC, hF, c0, c1, c2, c3, z0, z1, z2, hB, hz⟩ := hW
      obtain ⟨_, _, _, _, _, _⟩ := zs6 hz
      go_upto_region 6 with fail
      refine wp_region_held_drew (S := fun w' => w'.cell? ⟨w.heap.size, 0, none⟩ = some (.int .u64 (l0 q : Int)) ∧ w'.cell? ⟨w.heap.size + 1, 0, none⟩ = some (.bool dn) ∧ w'.cell? ⟨w.heap.size + 1, 1, none⟩ = some (.int .u64 (hiN d : Int)) ∧ w'.cell? ⟨w.heap.size + 1, 2, none⟩ = some (.int .u64 (loN d : Int))) (by kernel_rfl) (by refine ⟨?_, ?_, ?_, ?_⟩ <;> go_simp) (fun hHeld => ?_)
      refine wpAnyH_take (i := 0) (v := ?_) rfl (by kernel_rfl) (by kernel_rfl) (by kernel_rfl) (fun _ _ _ h => h) (Or.inl ⟨by rfl, ?_⟩) hHeld ?_
      rotate_left
      · (intro w0 hSw; (try dsimp only at hSw); (first | (go_simp; done) | (go_simp; with_reducible rfl)))
      (try simp only [List.getElem_toArray, List.getElem_cons_zero, List.getElem_cons_succ, Act.put, List.setIfInBounds_toArray, List.set_cons_zero, List.set_cons_succ])
      refine wpAnyH_take (i := 2) (v := ?_) rfl (by kernel_rfl) (by kernel_rfl) (by kernel_rfl) (fun _ _ _ h => h) (Or.inl ⟨by rfl, ?_⟩) hHeld ?_
      rotate_left
      · (intro w0 hSw; (try dsimp only at hSw); (first | (go_simp; done) | (go_simp; with_reducible rfl)))
      (try simp only [List.getElem_toArray, List.getElem_cons_zero, List.getElem_cons_succ, Act.put, List.setIfInBounds_toArray, List.set_cons_zero, List.set_cons_succ])
      refine wpAnyH_take (i := 3) (v := ?_) rfl (by kernel_rfl) (by kernel_rfl) (by kernel_rfl) (fun _ _ _ h => h) (Or.inl ⟨by rfl, ?_⟩) hHeld ?_
      rotate_left
      · (intro w0 hSw; (try dsimp only at hSw); (first | (go_simp; done) | (go_simp; with_reducible rfl)))
      (try simp only [List.getElem_toArray, List.getElem_cons_zero, List.getElem_cons_succ, Act.put, List.setIfInBounds_toArray, List.set_cons_zero, List.set_cons_succ])
      refine wpAnyH_take (i := 4) (v := ?_) rfl (by kernel_rfl) (by kernel_rfl) (by kernel_rfl) (fun _ _ _ h => h) (Or.inl ⟨by rfl, ?_⟩) hHeld ?_
      rotate_left
      · (intro w0 hSw; (try dsimp only at hSw); (first | (go_simp; done) | (go_simp; with_reducible rfl)))
      (try simp only [List.getElem_toArray, List.getElem_cons_zero, List.getElem_cons_succ, Act.put, List.setIfInBounds_toArray, List.set_cons_zero, List.set_cons_succ])
      refine wpAnyH_take (i := 5) (v := ?_) rfl (by kernel_rfl) (by kernel_rfl) (by kernel_rfl) (fun _ _ _ h => h) (Or.inl ⟨by rfl, ?_⟩) hHeld ?_
      rotate_left
      · (intro w0 hSw; (try dsimp only at hSw); (first | (go_simp; done) | (go_simp; with_reducible rfl)))
      (try simp only [List.getElem_toArray, List.getElem_cons_zero, List.getElem_cons_succ, Act.put, List.setIfInBounds_toArray, List.set_cons_zero, List.set_cons_succ])
      refine wpAnyH_ready (rs := [1]) (by kernel_rfl) (by simp) (AllReadyH.cons rfl (fun K hK => ?_) AllReadyH.nil)
      go_simp
      refine hK.out _ _ (by refine ⟨?_, ?_, ?_, ?_⟩ <;> go_simp) (fun hHeld2 => ?_)
      clear hK K hHeld; have hHeld := hHeld2; clear hHeld2
      (try simp only [List.getElem_toArray, List.getElem_cons_zero, List.getElem_cons_succ, Act.put, List.setIfInBounds_toArray, List.set_cons_zero, List.set_cons_succ])
      refine wpAnyH_ready (rs := [6]) (by kernel_rfl) (by simp) (AllReadyH.cons rfl (fun K hK => ?_) AllReadyH.nil)
      go_simp
      refine (C1.out _).mono ?_; rintro e w1 ⟨rfl, hb1⟩; obtain ⟨hc1, hf1⟩ := bcell hb1; simp only [World.size_drew, World.cell?_drew, World.frozen?_drew] at hc1 hf1; have hz1 := hb1.size; (try simp only [World.size_drew] at hz1); obtain ⟨_, _, _, _, _, _⟩ := zs6 (Nat.le_trans hz hz1); (try dsimp only)
      refine hK.out _ _ (by refine ⟨?_, ?_, ?_, ?_⟩ <;> go_simp) (fun hHeld2 => ?_)
      clear hK K hHeld; have hHeld := hHeld2; clear hHeld2
      (try simp only [List.getElem_toArray, List.getElem_cons_zero, List.getElem_cons_succ, Act.put, List.setIfInBounds_toArray, List.set_cons_zero, List.set_cons_succ])
      refine wpAnyH_take (i := 7) (v := ?_) rfl (by kernel_rfl) (by kernel_rfl) (by kernel_rfl) (fun _ _ _ h => h) (Or.inl ⟨by rfl, ?_⟩) hHeld ?_
      rotate_left
      · (intro w0 hSw; (try dsimp only at hSw); (first | (go_simp; done) | (go_simp; with_reducible rfl)))
      (try simp only [List.getElem_toArray, List.getElem_cons_zero, List.getElem_cons_succ, Act.put, List.setIfInBounds_toArray, List.set_cons_zero, List.set_cons_succ])
      refine wpAnyH_take (i := 8) (v := ?_) rfl (by kernel_rfl) (by kernel_rfl) (by kernel_rfl) (fun _ _ _ h => h) (Or.inl ⟨by rfl, ?_⟩) hHeld ?_
      rotate_left
      · (intro w0 hSw; (try dsimp only at hSw); (first | (go_simp; done) | (go_simp; with_reducible rfl)))
      (try simp only [List.getElem_toArray, List.getElem_cons_zero, List.getElem_cons_succ, Act.put, List.setIfInBounds_toArray, List.set_cons_zero, List.set_cons_succ])
      refine wpAnyH_take (i := 9) (v := ?_) rfl (by kernel_rfl) (by kernel_rfl) (by kernel_rfl) (fun _ _ _ h => h) (Or.inl ⟨by rfl, ?_⟩) hHeld ?_
      rotate_left
      · (intro w0 hSw; (try dsimp only at hSw); (first | (go_simp; done) | (go_simp; with_reducible rfl)))
      (try simp only [List.getElem_toArray, List.getElem_cons_zero, List.getElem_cons_succ, Act.put, List.setIfInBounds_toArray, List.set_cons_zero, List.set_cons_succ])
      refine wpAnyH_take (i := 10) (v := ?_) rfl (by kernel_rfl) (by kernel_rfl) (by kernel_rfl) (fun _ _ _ h => h) (Or.inl ⟨by rfl, ?_⟩) hHeld ?_
      rotate_left
      · (intro w0 hSw; (try dsimp only at hSw); (first | (go_simp; done) | (go_simp; with_reducible rfl)))
      (try simp only [List.getElem_toArray, List.getElem_cons_zero, List.getElem_cons_succ, Act.put, List.setIfInBounds_toArray, List.set_cons_zero, List.set_cons_succ])
      refine wpAnyH_ready (rs := [11]) (by kernel_rfl) (by simp) (AllReadyH.cons rfl (fun K hK => ?_) AllReadyH.nil)
      go_simp
      refine hK.out _ _ (by refine ⟨?_, ?_, ?_, ?_⟩ <;> go_simp) (fun hHeld2 => ?_)
      clear hK K hHeld; have hHeld := hHeld2; clear hHeld2
      (try simp only [List.getElem_toArray, List.getElem_cons_zero, List.getElem_cons_succ, Act.put, List.setIfInBounds_toArray, List.set_cons_zero, List.set_cons_succ])
      refine wpAnyH_ready (rs := [12]) (by kernel_rfl) (by simp) (AllReadyH.cons rfl (fun K hK => ?_) AllReadyH.nil)
      go_simp
      refine hK.out _ _ (by refine ⟨?_, ?_, ?_, ?_⟩ <;> go_simp) (fun hHeld2 => ?_)
      clear hK K hHeld; have hHeld := hHeld2; clear hHeld2
      (try simp only [List.getElem_toArray, List.getElem_cons_zero, List.getElem_cons_succ, Act.put, List.setIfInBounds_toArray, List.set_cons_zero, List.set_cons_succ])
      refine wpAnyH_done (by kernel_rfl) ?_ _
      clear hHeld
      go_wp2
      exact ⟨.inr (.inr (.inr (.inr ⟨_, _, _, _, _, _, _, _, rfl, d3, d2, d1, D.out, S.out w1 ((Below.refl _ _).drew.trans hb1)⟩))), by simp [intOf]⟩
    · have HW := Lib.hid hW
      obtain ⟨hC, hF, c0, c1, c2, c3, z0, z1, z2, hB, hz⟩ := hW
      obtain ⟨_, _, _, _, _, _⟩ := zs6 hz
      have F := Lib.hid (de_fin H.out.1 H.out.2.2 d3 d2 d1 d0)
      go_wp2
      go_region
      all_goals
        go_wp2
        refine bodyPost_ret (div_end HW.out _ rfl rfl) rfl ⟨?_, ?_⟩
        · obtain ⟨f0, f1, f2, f3, f4⟩ := F.out
          rw [f4, f0, f1, f2, f3]
        · repeat (first | (with_reducible exact Below.refl _ _) | (with_reducible refine Below.drew ?_) | (refine Below.setCell ?_ (by first | exact Nat.le_refl _ | (simp; done) | (simp; omega) | omega) _) | (refine Below.alloc ?_ (by first | exact Nat.le_refl _ | (simp; done) | (simp; omega) | omega) _) | (refine Below.trans ?_ (Below.mono (by assumption) (by first | exact Nat.le_refl _ | (simp; done) | (simp; omega) | omega))))
end Go.Proofs.YtfecnogmjfmghaaDoor
