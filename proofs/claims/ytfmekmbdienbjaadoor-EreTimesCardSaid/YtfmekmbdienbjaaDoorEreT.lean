/- An interval in three digits: how it is read. -/
import Derived.Test.YtfmekmbdienbjaaDoorEreR
namespace Go.Proofs.YtfmekmbdienbjaaDoor
set_option linter.unusedSimpArgs false
set_option linter.unusedVariables false
set_option linter.unnecessarySimpa false
open Go.RowKit

theorem numK_dig {l : List UInt8} {f k v d : Nat} (hk : k < l.length) (hd : (l.getD k 0).toNat = 48 + d) (h9 : d ≤ 9) : numK l (f + 1) k v = numK l f (k + 1) (10 * v + d) := by
  conv => lhs; unfold numK
  rw [if_pos ⟨hk, by omega, by omega⟩, hd, Nat.add_sub_cancel_left]
theorem numK_stop {l : List UInt8} {f k v : Nat} (hk : k < l.length) (hd : 57 < (l.getD k 0).toNat) : numK l f k v = (v, k) := by
  cases f with
  | zero => rfl
  | succ f => unfold numK; rw [if_neg (by omega)]
theorem num3 {l : List UInt8} {k x y z : Nat} (hk : k + 3 ≤ l.length) (h1 : (l.getD k 0).toNat = 48 + x) (h2 : (l.getD (k + 1) 0).toNat = 48 + y) (h3 : (l.getD (k + 2) 0).toNat = 48 + z) (x9 : x ≤ 9) (y9 : y ≤ 9) (z9 : z ≤ 9) :
    numL l k = (100 * x + 10 * y + z, k + 3) := by
  unfold numL
  rw [numK_dig (by omega) h1 x9, numK_dig (by omega) h2 y9, numK_dig (by omega) h3 z9]
  show (_, _) = _
  rw [show 10 * (10 * (10 * 0 + x) + y) + z = 100 * x + 10 * y + z by omega]
/-- Three digits of a number. -/
def d3 (m : Nat) : List UInt8 := [UInt8.ofNat (48 + m / 100), UInt8.ofNat (48 + m / 10 % 10), UInt8.ofNat (48 + m % 10)]
theorem of48 {d : Nat} (h : d ≤ 9) : (UInt8.ofNat (48 + d)).toNat = 48 + d := by rw [UInt8.toNat_ofNat']; omega
def tmL (m : Nat) (o : Option Nat) : List UInt8 := [120, 123] ++ (d3 m ++ ([44] ++ ((match o with | none => [] | some n => d3 n) ++ [125])))
def tmB (o : Option Nat) : Int := match o with | none => -1 | some n => n
theorem tm_itv {m : Nat} (hm : m < 1000) (o : Option Nat) (ho : ∀ n, o = some n → n < 1000) : itvL (tmL m o) 1 = endI (tmL m o) m (tmB o) ((tmL m o).length - 1) := by
  have n1 : numL (tmL m o) 2 = (m, 5) := by
    have := num3 (l := tmL m o) (k := 2) (x := m / 100) (y := m / 10 % 10) (z := m % 10) (by simp [tmL, d3]) (of48 (by omega)) (of48 (by omega)) (of48 (by omega)) (by omega) (by omega) (by omega)
    rw [this]
    show (_, _) = _
    rw [show 100 * (m / 100) + 10 * (m / 10 % 10) + m % 10 = m by omega]
  have c44 : isL (tmL m o) 5 44 = true := by unfold isL; rw [decide_eq_true (by simp [tmL, d3])]; rfl
  unfold itvL itvF
  rw [n1]
  simp only [show (1 + 1 : Nat) = 2 from rfl]
  rw [if_neg (by omega), c44, if_pos rfl]
  cases o with
  | none =>
    have n2 : numL (tmL m none) 6 = (0, 6) := by unfold numL; exact numK_stop (by simp [tmL, d3]) (by show 57 < (125 : UInt8).toNat; decide)
    rw [n2, if_pos rfl]; rfl
  | some n =>
    have hn := ho n rfl
    have n2 : numL (tmL m (some n)) 6 = (n, 9) := by
      have := num3 (l := tmL m (some n)) (k := 6) (x := n / 100) (y := n / 10 % 10) (z := n % 10) (by simp [tmL, d3]) (of48 (by omega)) (of48 (by omega)) (of48 (by omega)) (by omega) (by omega) (by omega)
      rw [this]
      show (_, _) = _
      rw [show 100 * (n / 100) + 10 * (n / 10 % 10) + n % 10 = n by omega]
    rw [n2, if_neg (by show ¬ 9 = 5 + 1; decide)]; rfl
theorem tm_125 (m : Nat) (o : Option Nat) : isL (tmL m o) ((tmL m o).length - 1) 125 = true := by cases o <;> rfl
theorem tm_sign {m : Nat} (hm : m < 1000) (o : Option Nat) (ho : ∀ n, o = some n → n < 1000) :
    signL (tmL m o) 1 = if boundsB m (tmB o) = true then .some m (tmB o) (tmL m o).length else .bad := by
  have hl : 1 < (tmL m o).length := by simp [tmL, d3]
  have h1 : ∀ c, isL (tmL m o) 1 c = ((123 : UInt8) == c) := fun c => by unfold isL; rw [decide_eq_true hl, Bool.true_and]; rfl
  unfold signL
  rw [h1, h1, h1, h1, if_neg (by decide), if_neg (by decide), if_neg (by decide), if_pos (by decide), tm_itv hm o ho]
  unfold endI
  rw [tm_125, if_pos rfl, Nat.sub_add_cancel (by omega)]
theorem tm_atm (m : Nat) (o : Option Nat) : RunE (tmL m o) (.atm 0 0) (.ok (setT (rngP 120 120)) 1) := by
  have hl : 0 < (tmL m o).length := by simp [tmL, d3]
  have h1 : ∀ c, isL (tmL m o) 0 c = ((120 : UInt8) == c) := fun c => by unfold isL; rw [decide_eq_true hl, Bool.true_and]; rfl
  have hp : plainA (tmL m o) 0 = .ok (setT (rngP 120 120)) 1 := by
    unfold plainA
    rw [h1, h1, h1, h1, h1, h1, h1]
    rfl
  rw [← hp]
  exact .atmOne 0 0 hl (by rw [h1]; rfl) (by rw [h1]; rfl)
theorem tm_no (m : Nat) (o : Option Nat) : endB (tmL m o) 0 = false := by cases o <;> rfl
theorem tm_ok {m : Nat} (hm : m < 1000) (o : Option Nat) (ho : ∀ n, o = some n → n < 1000) (hb : boundsB m (tmB o) = true) :
    RunE (tmL m o) (.exp 0 0 []) (.ok (.node 4 nonP m (tmB o) [setT (rngP 120 120)]) (tmL m o).length) := by
  have hs := tm_sign hm o ho
  rw [if_pos hb] at hs
  have he : signL (tmL m o) (tmL m o).length = .none := by
    unfold signL; rw [isL_fin (Nat.le_refl _), isL_fin (Nat.le_refl _), isL_fin (Nat.le_refl _), isL_fin (Nat.le_refl _)]; rfl
  have hz : endB (tmL m o) (tmL m o).length = true := by unfold endB; rw [decide_eq_true (Nat.le_refl _)]; rfl
  exact .expEnd 0 0 [] _ _ (.braOn 0 0 [] _ _ 1 _ _ (tm_no m o) (tm_atm m o) (.pieOn 1 0 _ 0 m (tmB o) _ _ hs (by decide) (.pieEnd _ 0 _ 1 he)) (.braEnd _ 0 _ hz)) (isL_fin (Nat.le_refl _) _)
theorem tm_bad {m : Nat} (hm : m < 1000) (o : Option Nat) (ho : ∀ n, o = some n → n < 1000) (hb : boundsB m (tmB o) = false) :
    RunE (tmL m o) (.exp 0 0 []) (.bad 1 5) := by
  have hs := tm_sign hm o ho
  rw [if_neg (by rw [hb]; decide)] at hs
  exact .expBad 0 0 [] 1 5 (.braSgn 0 0 [] _ 1 1 5 (tm_no m o) (tm_atm m o) (.pieBad 1 0 _ 0 hs))
set_option maxRecDepth 100000 in
set_option maxHeartbeats 8000000 in
theorem dig_u (m : Nat) (hm : m < 1000) (w : World) : Calls Tryd.prog 19 #[.int .i64 (m : Int)] w fun e w' => e = .returned (.string (S8 (d3 m))) ∧ Below w.heap.size w w' := by
  obtain ⟨x, hx⟩ : ∃ x, x = m / 100 := ⟨_, rfl⟩
  obtain ⟨y', hy'⟩ : ∃ y, y = m / 10 := ⟨_, rfl⟩
  obtain ⟨y, hy⟩ : ∃ y, y = m / 10 % 10 := ⟨_, rfl⟩
  obtain ⟨z, hz⟩ : ∃ z, z = m % 10 := ⟨_, rfl⟩
  have x9 : x ≤ 9 := by omega
  have y9 : y ≤ 9 := by omega
  have z9 : z ≤ 9 := by omega
  have e1 : Int.tdiv (m : Int) 100 = (x : Int) := by rw [hx]; rfl
  have e2 : Int.tdiv (m : Int) 10 = (y' : Int) := by rw [hy']; rfl
  have e3 : Int.tmod (y' : Int) 10 = (y : Int) := by rw [hy, hy']; rfl
  have e4 : Int.tmod (m : Int) 10 = (z : Int) := by rw [hz]; rfl
  have HD : Hid (d3 m = [UInt8.ofNat (48 + x), UInt8.ofNat (48 + y), UInt8.ofNat (48 + z)]) := by rw [hx, hy, hz]; rfl
  have hbx : bv (UInt8.ofNat (48 + x)) = .int .u8 (48 + (x : Int)) := by unfold bv; rw [of48 x9]; simp
  have hby : bv (UInt8.ofNat (48 + y)) = .int .u8 (48 + (y : Int)) := by unfold bv; rw [of48 y9]; simp
  have hbz : bv (UInt8.ofNat (48 + z)) = .int .u8 (48 + (z : Int)) := by unfold bv; rw [of48 z9]; simp
  have hcv : (convert 22 9 (.slice (some ⟨w.heap.size, 0, none⟩) 3 3)).run Tryd.prog (w.alloc (.cells #[.int .u8 (48 + (x : Int)), .int .u8 (48 + (y : Int)), .int .u8 (48 + (z : Int))] 5)) = .ok (.string (S8 (d3 m))) (w.alloc (.cells #[.int .u8 (48 + (x : Int)), .int .u8 (48 + (y : Int)), .int .u8 (48 + (z : Int))] 5)) := by
    have h9 := bs_new w [UInt8.ofNat (48 + x), UInt8.ofNat (48 + y), UInt8.ofNat (48 + z)] 5 (0, 0) (by simp [maxLen])
    have h8 : (bvs [UInt8.ofNat (48 + x), UInt8.ofNat (48 + y), UInt8.ofNat (48 + z)]).toArray = #[.int .u8 (48 + (x : Int)), .int .u8 (48 + (y : Int)), .int .u8 (48 + (z : Int))] := by
      unfold bvs; simp only [List.map_cons, List.map_nil]; rw [hbx, hby, hbz]
    rw [h8] at h9
    rw [HD.out]
    exact run_str h9
  have w1 : IntKind.i64.wrap (x : Int) = (x : Int) := by rw [IntKind.wrap_i64]; omega
  have w2 : IntKind.i64.wrap (y : Int) = (y : Int) := by rw [IntKind.wrap_i64]; omega
  have w3 : IntKind.i64.wrap (z : Int) = (z : Int) := by rw [IntKind.wrap_i64]; omega
  have w4 : IntKind.i64.wrap (48 + (x : Int)) = 48 + (x : Int) := by rw [IntKind.wrap_i64]; omega
  have w5 : IntKind.i64.wrap (48 + (y : Int)) = 48 + (y : Int) := by rw [IntKind.wrap_i64]; omega
  have w6 : IntKind.i64.wrap (48 + (z : Int)) = 48 + (z : Int) := by rw [IntKind.wrap_i64]; omega
  have w7 : IntKind.u8.wrap (48 + (x : Int)) = 48 + (x : Int) := by rw [IntKind.wrap_u8]; omega
  have w8 : IntKind.u8.wrap (48 + (y : Int)) = 48 + (y : Int) := by rw [IntKind.wrap_u8]; omega
  have w9 : IntKind.u8.wrap (48 + (z : Int)) = 48 + (z : Int) := by rw [IntKind.wrap_u8]; omega
  have w10 : IntKind.i64.wrap (y' : Int) = (y' : Int) := by rw [IntKind.wrap_i64]; omega
  generalize S8 (d3 m) = s at *
  clear hx hy hz hy' HD hbx hby hbz
  go_enter Tryd.func19, Tryd.ntmps19
  go_wp2
  go_ret
  exact ⟨rfl, by repeat (first | (with_reducible exact Below.refl _ _) | (with_reducible refine Below.drew ?_) | (refine Below.setCell ?_ (by first | exact Nat.le_refl _ | (simp; done) | (simp; omega) | omega) _) | (refine Below.alloc ?_ (by first | exact Nat.le_refl _ | (simp; done) | (simp; omega) | omega) _) | (refine Below.trans ?_ (Below.mono (by assumption) (by first | exact Nat.le_refl _ | (simp; done) | (simp; omega) | omega))))⟩
end Go.Proofs.YtfmekmbdienbjaaDoor
