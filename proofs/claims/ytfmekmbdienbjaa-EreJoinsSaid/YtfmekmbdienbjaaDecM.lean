/- Plain facts on magnitudes of two limbs of 64 bits. Nothing of the program. -/
import Derived.WalkKit
namespace Go.Proofs.Ytfmekmbdienbjaa
open Go.RowKit

/-- The upper and the lower limb of a magnitude. -/
def hiN (m : Nat) : Nat := m / 18446744073709551616
def loN (m : Nat) : Nat := m % 18446744073709551616
theorem loN_lt (m : Nat) : loN m < 18446744073709551616 := by unfold loN; omega
theorem hiN_lt {m : Nat} (h : m < 340282366920938463463374607431768211456) : hiN m < 18446744073709551616 := by unfold hiN; omega
theorem hilo (m : Nat) : hiN m * 18446744073709551616 + loN m = m := by unfold hiN loN; omega
theorem hiN_mk {h l : Nat} (hl : l < 18446744073709551616) : hiN (h * 18446744073709551616 + l) = h := by unfold hiN; omega
theorem loN_mk {h l : Nat} (hl : l < 18446744073709551616) : loN (h * 18446744073709551616 + l) = l := by unfold loN; omega
theorem hiN_small {m : Nat} (h : m < 18446744073709551616) : hiN m = 0 := by unfold hiN; omega
theorem loN_small {m : Nat} (h : m < 18446744073709551616) : loN m = m := by unfold loN; omega

/-- A number's value: its sign and its limbs. -/
abbrev DV (n : Bool) (h l : Nat) : Value := .agg #[.bool n, .int .u64 (h : Int), .int .u64 (l : Int)]
/-- A number's value of a sign and a magnitude. -/
abbrev MV (n : Bool) (m : Nat) : Value := .agg #[.bool n, .int .u64 (hiN m : Int), .int .u64 (loN m : Int)]
/-- Four limbs. -/
abbrev LV (a b c d : Nat) : Value := .agg #[.int .u64 (a : Int), .int .u64 (b : Int), .int .u64 (c : Int), .int .u64 (d : Int)]

def addS (x y c : Nat) : Nat := (x + y + c) % 18446744073709551616
def addC (x y c : Nat) : Nat := (x + y + c) / 18446744073709551616
def subS (x y b : Nat) : Nat := (x + 18446744073709551616 - y - b) % 18446744073709551616
def subB (x y b : Nat) : Nat := if x < y + b then 1 else 0

theorem below_eq (m k : Nat) : decide (hiN m < hiN k ∨ hiN m = hiN k ∧ loN m < loN k) = decide (m < k) := by
  have := hilo m; have := hilo k; have := loN_lt m; have := loN_lt k
  rw [decide_eq_decide]; omega

theorem plus_lo (m k : Nat) : addS (loN m) (loN k) 0 = loN (m + k) := by unfold addS loN; omega
theorem plus_hi {m k : Nat} (h : m + k < 340282366920938463463374607431768211456) :
    IntKind.u64.wrap (IntKind.u64.wrap ((hiN m : Int) + (hiN k : Int)) + (addC (loN m) (loN k) 0 : Nat)) = ((hiN (m + k) : Nat) : Int) := by
  simp only [IntKind.wrap_u64]; unfold addC hiN loN; omega
theorem minus_lo {m k : Nat} (h : k ≤ m) : subS (loN m) (loN k) 0 = loN (m - k) := by unfold subS loN; omega
theorem minus_hi {m k : Nat} (h : k ≤ m) (hm : m < 340282366920938463463374607431768211456) :
    IntKind.u64.wrap (IntKind.u64.wrap ((hiN m : Int) - (hiN k : Int)) - (subB (loN m) (loN k) 0 : Nat)) = ((hiN (m - k) : Nat) : Int) := by
  simp only [IntKind.wrap_u64]; unfold subB hiN loN; split <;> omega

theorem ret_bool {a b : Bool} (h : a = b) : Ending.returned (.bool a) = .returned (.bool b) := by rw [h]
theorem ret_dv {n n' : Bool} {a b a' b' : Int} (h0 : n = n') (h : a = a') (k : b = b') : Ending.returned (.agg #[.bool n, .int .u64 a, .int .u64 b]) = .returned (.agg #[.bool n', .int .u64 a', .int .u64 b']) := by rw [h0, h, k]
theorem ret_v {v v' : Value} (h : v = v') : Ending.returned v = .returned v' := by rw [h]

theorem bcell {W w1 : World} (hb : Below W.heap.size W w1) : (∀ b o, b < W.heap.size → w1.cell? ⟨b, o, none⟩ = W.cell? ⟨b, o, none⟩) ∧ (∀ b o, b < W.heap.size → w1.frozen? ⟨b, o, none⟩ = W.frozen? ⟨b, o, none⟩) :=
  ⟨fun b o h => hb.cell (p := ⟨b, o, none⟩) h, fun b o h => hb.frozen (p := ⟨b, o, none⟩) h⟩

/-- 10^36. -/
def topN : Nat := 1000000000000000000000000000000000000
theorem topN_eq : topN = 1000000000000000000000000000000000000 := rfl
theorem top_hi : ((hiN topN : Nat) : Int) = 54210108624275221 := by unfold hiN topN; omega
theorem top_lo : ((loN topN : Nat) : Int) = 12919594847110692864 := by unfold loN topN; omega
/-- Is a sign with a magnitude a right number? -/
def goodB (n : Bool) (m : Nat) : Bool := decide (m < topN) && !(n && decide (m = 0))
/-- Are two numbers of sign and magnitude one? -/
def eqM (n : Bool) (m : Nat) (n' : Bool) (m' : Nat) : Bool := n == n' && decide (m = m')
/-- The sign of a magnitude: 0 has none. -/
def signB (n : Bool) (m : Nat) : Bool := n && !decide (m = 0)
theorem eqM_limbs (n n' : Bool) (m m' : Nat) : (n == n' && (((hiN m : Int)) == (hiN m' : Int) && ((loN m : Int)) == (loN m' : Int))) = eqM n m n' m' := by
  have := hilo m; have := hilo m'; have := loN_lt m; have := loN_lt m'
  unfold eqM; congr 1
  rw [Bool.eq_iff_iff]; simp only [Bool.and_eq_true, beq_iff_eq, decide_eq_true_eq, Int.natCast_inj]
  constructor
  · rintro ⟨h1, h2⟩; omega
  · rintro rfl; exact ⟨rfl, rfl⟩
theorem hiN0 : hiN 0 = 0 := rfl
theorem loN0 : loN 0 = 0 := rfl

/-- The limbs of a magnitude of 256 bits. -/
def l0 (q : Nat) : Nat := q % 18446744073709551616
def l1 (q : Nat) : Nat := q / 18446744073709551616 % 18446744073709551616
def l2 (q : Nat) : Nat := q / 340282366920938463463374607431768211456 % 18446744073709551616
def l3 (q : Nat) : Nat := q / 6277101735386680763835789423207666416102355444464034512896 % 18446744073709551616
abbrev QV (q : Nat) : Value := .agg #[.int .u64 (l0 q : Int), .int .u64 (l1 q : Int), .int .u64 (l2 q : Int), .int .u64 (l3 q : Int)]
theorem l0_lo (q : Nat) : l0 q = loN q := rfl
theorem l1_hi {q : Nat} (h : q < 340282366920938463463374607431768211456) : l1 q = hiN q := by unfold l1 hiN; omega
theorem l2_0 {q : Nat} (h : q < 340282366920938463463374607431768211456) : l2 q = 0 := by unfold l2; omega
theorem l3_0 {q : Nat} (h : q < 340282366920938463463374607431768211456) : l3 q = 0 := by unfold l3; omega

/-- A number's sign. -/
def negZ (z : Int) : Bool := decide (z < 0)
abbrev ZV (z : Int) : Value := .agg #[.bool (negZ z), .int .u64 (hiN z.natAbs : Int), .int .u64 (loN z.natAbs : Int)]
theorem MV_eq {n n' : Bool} {m m' : Nat} (h : n = n') (k : m = m') : MV n m = MV n' m' := by rw [h, k]

/-- An error's value: number 0 is none. -/
def errV (c : Nat) : Value := if c = 0 then .nilIface else .iface 41 (.int .i64 (c : Int))
theorem errV0 : errV 0 = .nilIface := rfl
theorem errV1 : errV 1 = .iface 41 (.int .i64 1) := rfl
theorem errV2 : errV 2 = .iface 41 (.int .i64 2) := rfl
theorem errV3 : errV 3 = .iface 41 (.int .i64 3) := rfl
/-- What is kept of a magnitude, and the error's number. -/
def fitQ (q : Nat) : Nat := if q < topN then q else 0
def fitC (q : Nat) : Nat := if q < topN then 0 else 2
/-- A result of an operation on right numbers: the number, and the error's number. -/
def fitZ (z : Int) : Int := if z.natAbs < topN then z else 0
abbrev RV (r : Int × Nat) : Value := .tuple #[ZV r.1, errV r.2]
def fitR (z : Int) : Int × Nat := (fitZ z, fitC z.natAbs)
theorem goodB_z (z : Int) : goodB (negZ z) z.natAbs = decide (z.natAbs < topN) := by
  unfold goodB negZ
  by_cases h : z.natAbs = 0
  · have : z = 0 := by omega
    subst this; simp
  · simp [h]
theorem good_z {n : Bool} {m : Nat} (h : goodB n m = true) : ∃ z : Int, z.natAbs < topN ∧ n = negZ z ∧ m = z.natAbs := by
  unfold goodB at h
  simp only [Bool.and_eq_true, decide_eq_true_eq, Bool.not_eq_true', Bool.and_eq_false_iff, decide_eq_false_iff_not] at h
  obtain ⟨h1, h2⟩ := h
  cases n
  · exact ⟨m, by simpa using h1, by simp [negZ], by simp⟩
  · have h3 : m ≠ 0 := by rcases h2 with h2 | h2; cases h2; exact h2
    exact ⟨-m, by simpa using h1, by unfold negZ; simp; omega, by simp⟩
theorem sign_z {z : Int} {q : Nat} {neg : Bool} (hq : q = z.natAbs) (hn : q ≠ 0 → neg = negZ z) : MV (signB neg (fitQ q)) (fitQ q) = ZV (fitZ z) := by
  subst hq
  unfold fitQ fitZ
  by_cases h : z.natAbs < topN
  · simp only [h, if_true]
    apply MV_eq _ rfl
    unfold signB
    by_cases h0 : z.natAbs = 0
    · have : z = 0 := by omega
      subst this; simp [negZ]
    · rw [hn h0]; simp [h0]
  · simp only [h, if_false]; apply MV_eq <;> simp [signB, negZ]
theorem sign_z' {z : Int} {q : Nat} {neg : Bool} (hq : q = z.natAbs) (hn : q ≠ 0 → neg = negZ z) : MV (signB neg q) q = ZV z := by
  subst hq
  apply MV_eq _ rfl
  unfold signB
  by_cases h0 : z.natAbs = 0
  · have : z = 0 := by omega
    subst this; simp [negZ]
  · rw [hn h0]; simp [h0]
theorem ret_fit {z : Int} {q : Nat} {neg : Bool} (hq : q = z.natAbs) (hn : q ≠ 0 → neg = negZ z) : (.tuple #[MV (signB neg (fitQ q)) (fitQ q), errV (fitC q)] : Value) = RV (fitR z) := by
  have := sign_z hq hn
  subst hq
  show Value.tuple #[MV _ _, _] = Value.tuple #[ZV _, _]
  rw [this]; rfl
theorem three_set {w : World} {b : Nat} {x0 x1 x2 : Value} (y0 y1 y2 : Value) (h0 : w.cell? ⟨b, 0, none⟩ = some x0) (h1 : w.cell? ⟨b, 1, none⟩ = some x1) (h2 : w.cell? ⟨b, 2, none⟩ = some x2) :
    (((w.setCell ⟨b, 0, none⟩ y0).setCell ⟨b, 1, none⟩ y1).setCell ⟨b, 2, none⟩ y2).cell? ⟨b, 0, none⟩ = some y0 ∧
    (((w.setCell ⟨b, 0, none⟩ y0).setCell ⟨b, 1, none⟩ y1).setCell ⟨b, 2, none⟩ y2).cell? ⟨b, 1, none⟩ = some y1 ∧
    (((w.setCell ⟨b, 0, none⟩ y0).setCell ⟨b, 1, none⟩ y1).setCell ⟨b, 2, none⟩ y2).cell? ⟨b, 2, none⟩ = some y2 := by
  refine ⟨?_, ?_, ?_⟩
  · exact (World.cell?_setCell_other _ ⟨b, 2, none⟩ ⟨b, 0, none⟩ _ (by simp)).trans ((World.cell?_setCell_other _ ⟨b, 1, none⟩ ⟨b, 0, none⟩ _ (by simp)).trans (World.cell?_setCell_same _ _ _ h0))
  · exact (World.cell?_setCell_other _ ⟨b, 2, none⟩ ⟨b, 1, none⟩ _ (by simp)).trans (World.cell?_setCell_same _ _ _ ((World.cell?_setCell_other _ ⟨b, 0, none⟩ ⟨b, 1, none⟩ _ (by simp)).trans h1))
  · exact World.cell?_setCell_same _ _ _ ((World.cell?_setCell_other _ ⟨b, 1, none⟩ ⟨b, 2, none⟩ _ (by simp)).trans ((World.cell?_setCell_other _ ⟨b, 0, none⟩ ⟨b, 2, none⟩ _ (by simp)).trans h2))
theorem zs1 {B n : Nat} (h : B + 1 ≤ n) : B < n := by omega
theorem zs2 {B n : Nat} (h : B + 1 + 1 ≤ n) : B < n ∧ B + 1 < n := by omega
theorem zs3 {B n : Nat} (h : B + 1 + 1 + 1 ≤ n) : B < n ∧ B + 1 < n ∧ B + 1 + 1 < n := by omega
theorem zs4 {B n : Nat} (h : B + 1 + 1 + 1 + 1 ≤ n) : B < n ∧ B + 1 < n ∧ B + 1 + 1 < n ∧ B + 1 + 1 + 1 < n := by omega
theorem zs5 {B n : Nat} (h : B + 1 + 1 + 1 + 1 + 1 ≤ n) : B < n ∧ B + 1 < n ∧ B + 1 + 1 < n ∧ B + 1 + 1 + 1 < n ∧ B + 1 + 1 + 1 + 1 < n := by omega
theorem cell_other {w : World} {a b : Addr} {v : Value} {r : Option Value} (h : a ≠ b) (k : w.cell? b = r) : (w.setCell a v).cell? b = r := (World.cell?_setCell_other w a b v h).trans k
theorem cell_lt {w : World} {o : Obj} {a : Addr} {r : Option Value} (h : a.block < w.heap.size) (k : w.cell? a = r) : (w.alloc o).cell? a = r := (World.cell?_alloc_lt w o a h).trans k
theorem cell_same {w : World} {a : Addr} {v : Value} (h : ∃ u, w.cell? a = some u) : (w.setCell a v).cell? a = some v := by obtain ⟨u, hu⟩ := h; exact World.cell?_setCell_same w a v hu
theorem ex_other {w : World} {a b : Addr} {v : Value} (h : a ≠ b) (k : ∃ u, w.cell? b = some u) : ∃ u, (w.setCell a v).cell? b = some u := by obtain ⟨u, hu⟩ := k; exact ⟨u, cell_other h hu⟩
theorem ex_lt {w : World} {o : Obj} {a : Addr} (h : a.block < w.heap.size) (k : ∃ u, w.cell? a = some u) : ∃ u, (w.alloc o).cell? a = some u := by obtain ⟨u, hu⟩ := k; exact ⟨u, cell_lt h hu⟩
end Go.Proofs.Ytfmekmbdienbjaa
