/- Plain facts on sets of bytes as predicates: words of 64 bits, how many. Nothing of the program. -/
import Derived.Test.YtfmekmbdienbjaaDecM
namespace Go.Proofs.Ytfmekmbdienbjaa
set_option linter.unusedSimpArgs false
set_option linter.unusedVariables false
set_option linter.unnecessarySimpa false
open Go.RowKit

/-- The first n bits of a predicate, as a number. -/
def bitsP (f : Nat → Bool) : Nat → Nat
  | 0 => 0
  | n + 1 => bitsP f n + (if f n = true then 2 ^ n else 0)
theorem bitsP_lt (f : Nat → Bool) (n : Nat) : bitsP f n < 2 ^ n := by
  induction n with
  | zero => simp [bitsP]
  | succ n ih => rw [bitsP, Nat.pow_succ]; split <;> omega
theorem bitsP_bit (f : Nat → Bool) (n j : Nat) : (bitsP f n).testBit j = (decide (j < n) && f j) := by
  induction n with
  | zero => simp [bitsP]
  | succ n ih =>
    rw [bitsP]
    have hl := bitsP_lt f n
    split
    · rename_i h
      rw [Nat.add_comm]
      rcases Nat.lt_trichotomy j n with h' | h' | h'
      · rw [Nat.testBit_two_pow_add_gt h', ih, decide_eq_true h', decide_eq_true (by omega)]
      · subst h'
        rw [Nat.testBit_two_pow_add_eq, Nat.testBit_lt_two_pow hl, decide_eq_true (Nat.lt_succ_self _), h]; rfl
      · rw [decide_eq_false (by omega), Bool.false_and]
        refine Nat.testBit_lt_two_pow (Nat.lt_of_lt_of_le (m := 2 ^ (n + 1)) ?_ (Nat.pow_le_pow_right (by decide) h'))
        rw [Nat.pow_succ]; omega
    · rename_i h
      rw [Nat.add_zero, ih]
      have h : f n = false := by simpa using h
      by_cases hj : j = n
      · subst hj; simp [h]
      · congr 1
        exact decide_eq_decide.2 (by omega)
theorem bitsP_ext {f g : Nat → Bool} {n : Nat} (h : ∀ j, j < n → f j = g j) : bitsP f n = bitsP g n := by
  refine Nat.eq_of_testBit_eq fun j => ?_
  rw [bitsP_bit, bitsP_bit]
  by_cases hj : j < n
  · rw [h j hj]
  · rw [decide_eq_false hj]; rfl

/-- The word i of a set. -/
def wd (p : Nat → Bool) (i : Nat) : Nat := bitsP (fun j => p (64 * i + j)) 64
theorem wd_lt (p : Nat → Bool) (i : Nat) : wd p i < 18446744073709551616 := bitsP_lt _ 64
theorem wd_bit (p : Nat → Bool) (i j : Nat) : (wd p i).testBit j = (decide (j < 64) && p (64 * i + j)) := bitsP_bit _ _ _
theorem wd_ext {p q : Nat → Bool} {i : Nat} (h : ∀ j, j < 64 → p (64 * i + j) = q (64 * i + j)) : wd p i = wd q i := bitsP_ext h
theorem wd_or (p q : Nat → Bool) (i : Nat) : wd p i ||| wd q i = wd (fun x => p x || q x) i := by
  refine Nat.eq_of_testBit_eq fun j => ?_
  rw [Nat.testBit_or, wd_bit, wd_bit, wd_bit]
  cases decide (j < 64) <;> rfl
theorem wd_not (p : Nat → Bool) (i : Nat) : 18446744073709551615 - wd p i = wd (fun x => !p x) i := by
  refine Nat.eq_of_testBit_eq fun j => ?_
  have e : 18446744073709551615 - wd p i = 2 ^ 64 - (wd p i + 1) := by have := wd_lt p i; omega
  rw [e, Nat.testBit_two_pow_sub_succ (wd_lt p i), wd_bit, wd_bit]
  cases decide (j < 64) <;> simp
theorem wd_set (p : Nat → Bool) (i j : Nat) (hj : j < 64) : wd p i ||| 2 ^ j = wd (fun x => p x || decide (x = 64 * i + j)) i := by
  refine Nat.eq_of_testBit_eq fun m => ?_
  rw [Nat.testBit_or, wd_bit, wd_bit, Nat.testBit_two_pow]
  by_cases hm : m < 64
  · rw [decide_eq_true hm, Bool.true_and, Bool.true_and]
    congr 1
    exact decide_eq_decide.2 (by omega)
  · rw [decide_eq_false hm, Bool.false_and, Bool.false_and, Bool.false_or]
    exact decide_eq_false (by omega)
theorem wd_none (i : Nat) : wd (fun _ => false) i = 0 := by
  refine Nat.eq_of_testBit_eq fun m => ?_
  rw [wd_bit]; simp
/-- Any four words are a set's. -/
theorem wd_of (a : Nat → Nat) (i : Nat) (h : a i < 18446744073709551616) : wd (fun c => (a (c / 64)).testBit (c % 64)) i = a i := by
  refine Nat.eq_of_testBit_eq fun m => ?_
  rw [wd_bit]
  by_cases hm : m < 64
  · rw [decide_eq_true hm, Bool.true_and, show (64 * i + m) / 64 = i by omega, show (64 * i + m) % 64 = m by omega]
  · rw [decide_eq_false hm, Bool.false_and, Nat.testBit_lt_two_pow (Nat.lt_of_lt_of_le h (Nat.pow_le_pow_right (n := 2) (i := 64) (by decide) (by omega)))]
/-- Whether a byte is in a set, out of its word. -/
theorem wd_has (p : Nat → Bool) (c : Nat) : decide (wd p (c / 64) / 2 ^ (c % 64) % 2 = 1) = p c := by
  have h := wd_bit p (c / 64) (c % 64)
  rw [decide_eq_true (Nat.mod_lt _ (by decide)), Bool.true_and, Nat.div_add_mod] at h
  rw [← h, Nat.testBit_eq_decide_div_mod_eq]

/-- How many of the first n numbers are in a set. -/
def cntP (p : Nat → Bool) : Nat → Nat
  | 0 => 0
  | n + 1 => cntP p n + (if p n = true then 1 else 0)
theorem cntP_le (p : Nat → Bool) (n : Nat) : cntP p n ≤ n := by
  induction n with
  | zero => exact Nat.le_refl _
  | succ n ih => rw [cntP]; split <;> omega
theorem cntP_not (p : Nat → Bool) (n : Nat) : cntP p n + cntP (fun x => !p x) n = n := by
  induction n with
  | zero => rfl
  | succ n ih => rw [cntP, cntP]; cases p n <;> simp <;> omega
theorem cntP_two (p q : Nat → Bool) (n : Nat) : cntP (fun x => p x && q x) n + cntP (fun x => p x || q x) n = cntP p n + cntP q n := by
  induction n with
  | zero => rfl
  | succ n ih => rw [cntP, cntP, cntP, cntP]; cases p n <;> cases q n <;> simp <;> omega
theorem cntP_ext {p q : Nat → Bool} {n : Nat} (h : ∀ j, j < n → p j = q j) : cntP p n = cntP q n := by
  induction n with
  | zero => rfl
  | succ n ih => rw [cntP, cntP, ih (fun j hj => h j (by omega)), h n (by omega)]
theorem cntP_add (p : Nat → Bool) (m n : Nat) : cntP p (m + n) = cntP p m + cntP (fun j => p (m + j)) n := by
  induction n with
  | zero => rfl
  | succ n ih => rw [← Nat.add_assoc, cntP, cntP, ih, Nat.add_assoc]
theorem cntP_one (d n : Nat) : cntP (fun x => decide (x = d)) n = if d < n then 1 else 0 := by
  induction n with
  | zero => rfl
  | succ n ih =>
    rw [cntP, ih]
    rcases Nat.lt_trichotomy d n with h | h | h
    · rw [if_pos h, if_neg (by simp; omega), if_pos (by omega)]
    · subst h; rw [if_neg (Nat.lt_irrefl _), if_pos (by simp), if_pos (by omega)]
    · rw [if_neg (by omega), if_neg (by simp; omega), if_neg (by omega)]
theorem cntP_256 (p : Nat → Bool) : cntP p 256 = cntP (fun j => p (64 * 0 + j)) 64 + cntP (fun j => p (64 * 1 + j)) 64 + cntP (fun j => p (64 * 2 + j)) 64 + cntP (fun j => p (64 * 3 + j)) 64 := by
  rw [show (256 : Nat) = 64 + 64 + 64 + 64 from rfl, cntP_add, cntP_add, cntP_add]
  simp only [Nat.mul_zero, Nat.zero_add, Nat.mul_one]

/-! How many bits a word has, as the library reckons it. -/
theorem and_split (a b c d : Nat) (ha : a < 256) (hc : c < 256) : (a + 256 * b) &&& (c + 256 * d) = (a &&& c) + 256 * (b &&& d) := by
  have hac : a &&& c < 256 := Nat.lt_of_le_of_lt Nat.and_le_left ha
  refine Nat.eq_of_testBit_eq fun j => ?_
  rw [Nat.add_comm a, Nat.add_comm c, Nat.add_comm (a &&& c), show (256 : Nat) = 2 ^ 8 from rfl, Nat.testBit_and,
    Nat.testBit_two_pow_mul_add _ (by exact ha), Nat.testBit_two_pow_mul_add _ (by exact hc), Nat.testBit_two_pow_mul_add _ (by exact hac)]
  by_cases h : j < 8
  · rw [if_pos h, if_pos h, if_pos h, Nat.testBit_and]
  · rw [if_neg h, if_neg h, if_neg h, Nat.testBit_and]
def g1 (x M : Nat) : Nat := (x / 2 &&& M) + (x &&& M)
def g2 (x M : Nat) : Nat := (x / 4 &&& M) + (x &&& M)
def g3 (x M : Nat) : Nat := (x / 16 + x) &&& M
theorem g1_byte : ∀ b, b < 256 → g1 b 85 < 256 ∧ (∀ t, t < 2 → (b / 2 + 128 * t) &&& 85 = b / 2 &&& 85) := by decide +kernel
theorem g2_byte : ∀ b, b < 256 → g2 (g1 b 85) 51 < 69 ∧ g2 (g1 b 85) 51 % 16 ≤ 4 ∧ (∀ t, t < 4 → (g1 b 85 / 4 + 64 * t) &&& 51 = g1 b 85 / 4 &&& 51) := by decide +kernel
theorem g3_byte : ∀ b, b < 256 → (∀ t, t < 5 → (g2 (g1 b 85) 51 / 16 + g2 (g1 b 85) 51 + 16 * t) &&& 15 = g3 (g2 (g1 b 85) 51) 15) := by decide +kernel
def popB (b : Nat) : Nat := g3 (g2 (g1 b 85) 51) 15
theorem popB_byte : ∀ b, b < 256 → popB b ≤ 8 ∧ popB b = cntP b.testBit 8 := by decide +kernel
theorem g1_step (b y M : Nat) (h : b < 256) : g1 (b + 256 * y) (85 + 256 * M) = g1 b 85 + 256 * g1 y M := by
  have e : (b + 256 * y) / 2 = (b / 2 + 128 * (y % 2)) + 256 * (y / 2) := by omega
  unfold g1
  rw [e, and_split _ _ _ _ (by omega) (by decide), and_split _ _ _ _ h (by decide), (g1_byte b h).2 _ (Nat.mod_lt _ (by decide))]
  omega
theorem g2_step (b y M : Nat) (h : b < 256) : g2 (g1 b 85 + 256 * y) (51 + 256 * M) = g2 (g1 b 85) 51 + 256 * g2 y M := by
  have h1 := (g1_byte b h).1
  have e : (g1 b 85 + 256 * y) / 4 = (g1 b 85 / 4 + 64 * (y % 4)) + 256 * (y / 4) := by omega
  have h2 := (g2_byte b h).2.2 (y % 4) (Nat.mod_lt _ (by decide))
  unfold g2
  rw [e, and_split _ _ _ _ (by omega) (by decide), and_split _ _ _ _ h1 (by decide), h2]
  omega
theorem g3_step (b y M : Nat) (h : b < 256) (hy : y % 16 ≤ 4) : g3 (g2 (g1 b 85) 51 + 256 * y) (15 + 256 * M) = popB b + 256 * g3 y M := by
  have h1 := (g2_byte b h).1
  have h2 := g3_byte b h (y % 16) (by omega)
  have e : (g2 (g1 b 85) 51 + 256 * y) / 16 + (g2 (g1 b 85) 51 + 256 * y) = (g2 (g1 b 85) 51 / 16 + g2 (g1 b 85) 51 + 16 * (y % 16)) + 256 * (y / 16 + y) := by omega
  unfold popB
  rw [← h2]
  unfold g3
  rw [e, and_split _ _ _ _ (by omega) (by decide)]
def mkM (c : Nat) : Nat → Nat
  | 0 => 0
  | k + 1 => c + 256 * mkM c k
def popK (x : Nat) : Nat → Nat
  | 0 => 0
  | k + 1 => popB (x % 256) + 256 * popK (x / 256) k
/-- Step by step, each byte by itself. -/
theorem swar (k : Nat) : ∀ x, x < 256 ^ k → g3 (g2 (g1 x (mkM 85 k)) (mkM 51 k)) (mkM 15 k) = popK x k ∧ g2 (g1 x (mkM 85 k)) (mkM 51 k) % 16 ≤ 4 := by
  induction k with
  | zero => intro x hx; obtain rfl : x = 0 := by simpa using hx
            exact ⟨rfl, by decide⟩
  | succ k ih =>
    intro x hx
    have hb : x % 256 < 256 := Nat.mod_lt _ (by decide)
    obtain ⟨e, h4⟩ := ih (x / 256) (by rw [Nat.div_lt_iff_lt_mul (by decide)]; rwa [Nat.pow_succ] at hx)
    have hd : x = x % 256 + 256 * (x / 256) := by omega
    have h1 : g1 x (mkM 85 (k + 1)) = g1 (x % 256) 85 + 256 * g1 (x / 256) (mkM 85 k) := by
      conv => lhs; rw [hd]
      exact g1_step _ _ _ hb
    have h2 : g2 (g1 x (mkM 85 (k + 1))) (mkM 51 (k + 1)) = g2 (g1 (x % 256) 85) 51 + 256 * g2 (g1 (x / 256) (mkM 85 k)) (mkM 51 k) := by
      rw [h1]; exact g2_step _ _ _ hb
    rw [h2]
    refine ⟨?_, ?_⟩
    · show g3 _ (15 + 256 * mkM 15 k) = _
      rw [g3_step _ _ _ hb h4, e]; rfl
    · have := (g2_byte _ hb).2.1; omega
theorem popK8 (x : Nat) : popK x 8 = popB (x % 256) + 256 * (popB (x / 256 % 256) + 256 * (popB (x / 256 / 256 % 256) + 256 * (popB (x / 256 / 256 / 256 % 256) + 256 * (popB (x / 256 / 256 / 256 / 256 % 256) + 256 * (popB (x / 256 / 256 / 256 / 256 / 256 % 256) + 256 * (popB (x / 256 / 256 / 256 / 256 / 256 / 256 % 256) + 256 * popB (x / 256 / 256 / 256 / 256 / 256 / 256 / 256 % 256))))))) := by
  simp [popK]
theorem cntP_byte (x : Nat) : popB (x % 256) = cntP x.testBit 8 := by
  rw [(popB_byte _ (Nat.mod_lt _ (by decide))).2]
  refine cntP_ext fun j hj => ?_
  rw [show (256 : Nat) = 2 ^ 8 from rfl, Nat.testBit_mod_two_pow, decide_eq_true hj, Bool.true_and]
theorem cntP_step (x n : Nat) : cntP x.testBit (8 + n) = popB (x % 256) + cntP (x / 256).testBit n := by
  rw [cntP_add, cntP_byte]
  congr 1
  refine cntP_ext fun j _ => ?_
  rw [show (256 : Nat) = 2 ^ 8 from rfl, Nat.testBit_div_two_pow, Nat.add_comm]
theorem shr1 (c C T : Nat) (h : c < 256) (hT : T = c + 256 * C) : T / 256 = C := by omega
theorem shr2 (c d C T : Nat) (h : c < 256) (h' : d < 256) (hT : T = c + 256 * (d + 256 * C)) : T / 65536 = C := by omega
theorem shr4 (c d e f C T : Nat) (h : c < 256) (h' : d < 256) (h2 : e < 256) (h3 : f < 256) (hT : T = c + 256 * (d + 256 * (e + 256 * (f + 256 * C)))) : T / 4294967296 = C := by omega
theorem dbl (v q t : Nat) (ht : t = v + q) (hq : q ≤ v) (hv : v < 4611686018427387904) : t < 9223372036854775808 := by omega
theorem upb (c C b : Nat) (h : c ≤ 32) (h2 : C ≤ b) : c + 256 * C ≤ 32 + 256 * b := by omega
theorem lowb (a Z b Y s t : Nat) (ht : t = (a + 256 * Z) + (b + 256 * Y)) (hs : a + b = s) (hl : s ≤ 64) : t % 128 = s := by omega
theorem sums8 (c0 c1 c2 c3 c4 c5 c6 c7 T u v t : Nat) (h0 : c0 ≤ 8) (h1 : c1 ≤ 8) (h2 : c2 ≤ 8) (h3 : c3 ≤ 8) (h4 : c4 ≤ 8) (h5 : c5 ≤ 8) (h6 : c6 ≤ 8) (h7 : c7 ≤ 8)
    (hT : T = c0 + 256 * (c1 + 256 * (c2 + 256 * (c3 + 256 * (c4 + 256 * (c5 + 256 * (c6 + 256 * c7)))))))
    (hu : u = T + T / 256) (hv : v = u + u / 65536) (ht : t = v + v / 4294967296) :
    t % 128 = c0 + c1 + c2 + c3 + c4 + c5 + c6 + c7 ∧ u < 9223372036854775808 ∧ v < 9223372036854775808 ∧ t < 9223372036854775808 := by
  have e1 := shr1 _ _ _ (Nat.lt_of_le_of_lt h0 (by decide)) hT
  rw [e1, hT] at hu
  have e2 : u = (c0 + c1) + 256 * ((c1 + c2) + 256 * ((c2 + c3) + 256 * ((c3 + c4) + 256 * ((c4 + c5) + 256 * ((c5 + c6) + 256 * ((c6 + c7) + 256 * c7)))))) := by rw [hu]; clear h0 h1 h2 h3 h4 h5 h6 h7 e1 hT hu hv ht; simp only [Nat.mul_add]; ac_rfl
  clear e1 hT hu
  have e3 := shr2 _ _ _ _ (Nat.lt_of_le_of_lt (Nat.add_le_add h0 h1) (by decide)) (Nat.lt_of_le_of_lt (Nat.add_le_add h1 h2) (by decide)) e2
  rw [e3] at hv
  have e4 : v = (c0 + c1 + c2 + c3) + 256 * ((c1 + c2 + c3 + c4) + 256 * ((c2 + c3 + c4 + c5) + 256 * ((c3 + c4 + c5 + c6) + 256 * ((c4 + c5 + c6 + c7) + 256 * ((c5 + c6 + c7) + 256 * ((c6 + c7) + 256 * c7)))))) := by rw [hv, e2]; clear h0 h1 h2 h3 h4 h5 h6 h7 e2 e3 hv ht; simp only [Nat.mul_add]; ac_rfl
  clear e3
  have e5 := hv
  clear hv
  have e6 := shr4 _ _ _ _ _ _ (Nat.lt_of_le_of_lt (Nat.add_le_add (Nat.add_le_add (Nat.add_le_add h0 h1) h2) h3) (by decide)) (Nat.lt_of_le_of_lt (Nat.add_le_add (Nat.add_le_add (Nat.add_le_add h1 h2) h3) h4) (by decide)) (Nat.lt_of_le_of_lt (Nat.add_le_add (Nat.add_le_add (Nat.add_le_add h2 h3) h4) h5) (by decide)) (Nat.lt_of_le_of_lt (Nat.add_le_add (Nat.add_le_add (Nat.add_le_add h3 h4) h5) h6) (by decide)) e4
  have X0 : (c6 + c7) + 256 * c7 ≤ 4095 := Nat.le_trans (Nat.add_le_add (Nat.add_le_add h6 h7) (Nat.mul_le_mul_left 256 h7)) (by decide)
  have X1 := upb _ _ _ (show c5 + c6 + c7 ≤ 32 from (Nat.le_trans (Nat.add_le_add (Nat.add_le_add h5 h6) h7) (by decide))) X0
  have X2 := upb _ _ _ (show c4 + c5 + c6 + c7 ≤ 32 from (Nat.le_trans (Nat.add_le_add (Nat.add_le_add (Nat.add_le_add h4 h5) h6) h7) (by decide))) X1
  have X3 := upb _ _ _ (show c3 + c4 + c5 + c6 ≤ 32 from (Nat.le_trans (Nat.add_le_add (Nat.add_le_add (Nat.add_le_add h3 h4) h5) h6) (by decide))) X2
  have X4 := upb _ _ _ (show c2 + c3 + c4 + c5 ≤ 32 from (Nat.le_trans (Nat.add_le_add (Nat.add_le_add (Nat.add_le_add h2 h3) h4) h5) (by decide))) X3
  have X5 := upb _ _ _ (show c1 + c2 + c3 + c4 ≤ 32 from (Nat.le_trans (Nat.add_le_add (Nat.add_le_add (Nat.add_le_add h1 h2) h3) h4) (by decide))) X4
  have X6 := upb _ _ _ (show c0 + c1 + c2 + c3 ≤ 32 from (Nat.le_trans (Nat.add_le_add (Nat.add_le_add (Nat.add_le_add h0 h1) h2) h3) (by decide))) X5
  have X7 : v ≤ _ := Nat.le_trans (Nat.le_of_eq e4) X6
  have hu : u ≤ v := by rw [e5]; exact Nat.le_add_right _ _
  have hq : v / 4294967296 ≤ v := Nat.div_le_self _ _
  have hv : v < 4611686018427387904 := Nat.lt_of_le_of_lt X7 (by decide +kernel)
  refine ⟨?_, Nat.lt_of_le_of_lt hu (Nat.lt_trans hv (by decide)), Nat.lt_trans hv (by decide), dbl _ _ _ ht hq hv⟩
  clear X0 X1 X2 X3 X4 X5 X6 X7 hu hq hv
  have ht := ht.trans ((congrArg (v + ·) e6).trans (congrArg (· + _) e4))
  exact lowb _ _ _ _ _ _ ht (by clear ht; ac_rfl) (Nat.le_trans (Nat.add_le_add (Nat.add_le_add (Nat.add_le_add (Nat.add_le_add (Nat.add_le_add (Nat.add_le_add (Nat.add_le_add h0 h1) h2) h3) h4) h5) h6) h7) (by decide))
/-- The library's way comes to how many bits a word has. -/
theorem ones64 (x a b c u v t : Nat) (hx : x < 18446744073709551616)
    (ha : a = (x / 2 &&& 6148914691236517205) + (x &&& 6148914691236517205))
    (hb : b = (a / 4 &&& 3689348814741910323) + (a &&& 3689348814741910323))
    (hc : c = (b / 16 + b) &&& 1085102592571150095)
    (hu : u = c + c / 256) (hv : v = u + u / 65536) (ht : t = v + v / 4294967296) :
    t % 128 = cntP x.testBit 64 ∧ u < 9223372036854775808 ∧ v < 9223372036854775808 ∧ t < 9223372036854775808 := by
  have hs := (swar 8 x (by rw [show (256 : Nat) ^ 8 = 18446744073709551616 by decide +kernel]; exact hx)).1
  rw [show mkM 85 8 = 6148914691236517205 by decide +kernel, show mkM 51 8 = 3689348814741910323 by decide +kernel, show mkM 15 8 = 1085102592571150095 by decide +kernel] at hs
  have hT : c = popK x 8 := by
    rw [hc, hb, ha]
    unfold g1 g2 g3 at hs
    exact hs
  clear hs ha hb hc
  rw [popK8] at hT
  have B := fun y => (popB_byte (y % 256) (Nat.mod_lt _ (by decide))).1
  have h := sums8 _ _ _ _ _ _ _ _ c u v t (B _) (B _) (B _) (B _) (B _) (B _) (B _) (B _) hT hu hv ht
  refine ⟨?_, h.2⟩
  rw [h.1, show (64 : Nat) = 8 + (8 + (8 + (8 + (8 + (8 + (8 + (8 + 0))))))) from rfl, cntP_step, cntP_step, cntP_step, cntP_step, cntP_step, cntP_step, cntP_step, cntP_step]
  simp only [cntP, Nat.add_zero, Nat.add_assoc]
theorem ones_wd (p : Nat → Bool) (i : Nat) : cntP (wd p i).testBit 64 = cntP (fun j => p (64 * i + j)) 64 :=
  cntP_ext fun j hj => by rw [wd_bit, decide_eq_true hj, Bool.true_and]
end Go.Proofs.Ytfmekmbdienbjaa
