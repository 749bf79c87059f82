/- The digits of a number as bytes, and the contract of split. -/
import Derived.Test.YtfecnogmjfmghaaDoorNumG
namespace Go.Proofs.YtfecnogmjfmghaaDoor
set_option linter.unusedSimpArgs false
set_option linter.unusedVariables false
set_option linter.unnecessarySimpa false
open Go.RowKit

/-- The last digits of a number, so many of them. -/
def dgs : Nat → Nat → List UInt8
  | 0, _ => []
  | m + 1, n => dgs m (n / 10) ++ [UInt8.ofNat (48 + n % 10)]
theorem dg_nat (n : Nat) : (UInt8.ofNat (48 + n % 10)).toNat = 48 + n % 10 := by
  rw [UInt8.toNat_ofNat']; omega
theorem dgs_len : ∀ (m n : Nat), (dgs m n).length = m := by
  intro m
  induction m with
  | zero => intro n; rfl
  | succ m ih => intro n; simp [dgs, ih]
theorem dgs_dgt : ∀ (m n : Nat), allD (dgs m n) := by
  intro m
  induction m with
  | zero => intro n c hc; cases hc
  | succ m ih =>
    intro n c hc
    rcases List.mem_append.1 hc with h | h
    · exact ih _ c h
    · simp only [List.mem_singleton] at h
      rw [h]; unfold isDgt; rw [dg_nat]; omega
theorem valU_dgs : ∀ (m n : Nat), valU (dgs m n) = n % 10 ^ m := by
  intro m
  induction m with
  | zero => intro n; simp [dgs, valU_nil, Nat.mod_one]
  | succ m ih =>
    intro n
    show valU (dgs m (n / 10) ++ [_]) = _
    rw [valU_append, ih]
    have e : valU [UInt8.ofNat (48 + n % 10)] = n % 10 := by
      rw [valU_cons, dg_nat]; simp [valU_nil]
    rw [e, Nat.pow_succ, Nat.mul_comm (10 ^ m) 10, Nat.mod_mul]
    simp only [List.length_singleton, Nat.pow_one]
    omega
theorem dgs_add (a : Nat) : ∀ (b n : Nat), dgs (a + b) n = dgs a (n / 10 ^ b) ++ dgs b n := by
  intro b
  induction b with
  | zero => intro n; simp [dgs]
  | succ b ih =>
    intro n
    show dgs (a + b) (n / 10) ++ _ = _ ++ (dgs b (n / 10) ++ _)
    rw [ih, List.append_assoc, Nat.div_div_eq_div_mul, Nat.pow_succ, Nat.mul_comm 10]
theorem dgs_mod : ∀ (b n k : Nat), dgs b (n + 10 ^ b * k) = dgs b n := by
  intro b
  induction b with
  | zero => intro n k; rfl
  | succ b ih =>
    intro n k
    show dgs b ((n + 10 ^ (b + 1) * k) / 10) ++ [UInt8.ofNat (48 + (n + 10 ^ (b + 1) * k) % 10)] = dgs b (n / 10) ++ [UInt8.ofNat (48 + n % 10)]
    have e : 10 ^ (b + 1) * k = 10 * (10 ^ b * k) := by rw [Nat.pow_succ, Nat.mul_comm (10 ^ b) 10, Nat.mul_assoc]
    rw [e, Nat.add_mul_div_left _ _ (by omega), Nat.add_mul_mod_self_left, ih]
theorem spl_row (pre suf post : List UInt8) (mid : List UInt8) {j : Nat} (hj : j < mid.length) (x : UInt8) :
    (bvs (pre ++ (mid.take (j + 1) ++ (suf ++ post)))).toArray.setIfInBounds (pre.length + j) (bv x) = (bvs (pre ++ (mid.take j ++ (x :: suf ++ post)))).toArray := by
  rw [List.setIfInBounds_toArray]
  congr 1
  have ht : (mid.take j).length = j := by rw [List.length_take]; omega
  unfold bvs
  rw [take_u8 mid hj]
  simp only [List.map_append, List.map_cons, List.map_nil, List.append_assoc, List.cons_append, List.nil_append]
  rw [List.set_append_right _ _ (by simp), List.length_map, Nat.add_sub_cancel_left, List.set_append_right _ _ (by rw [List.length_map, ht]; exact Nat.le_refl _), List.length_map, ht, Nat.sub_self]
  rfl

set_option maxRecDepth 100000 in
set_option maxHeartbeats 4000000 in
theorem split_u {g m cap n : Nat} {pre mid post : List UInt8} {T : TypeId} {w : World} (hm : mid.length = m) (r : Row w g T (bvs (pre ++ (mid ++ post))).toArray) (hm18 : m ≤ 18) (hcap : m ≤ cap) (hn : n < 18446744073709551616) :
    Calls Tryd.prog 52 #[.slice (some ⟨g, pre.length, none⟩) m cap, .int .u64 (n : Int)] w fun e w' => e = .returned (.tuple #[]) ∧ Row w' g T (bvs (pre ++ (dgs m n ++ post))).toArray ∧ Below g w w' := by
  have HM := Lib.hid hm; clear hm
  have hg := r.lt
  have HR := Lib.hid r; clear r
  go_enter Tryd.func52, Tryd.ntmps52
  go_wp2
  go_loopw [1, 4] (fun nv iv wr => ∃ (j nj : Nat) (suf : List UInt8), j ≤ m ∧ iv = .int .i64 ((j : Int) - 1) ∧ nv = .int .u64 (nj : Int) ∧ nj ≤ n ∧ Hid (dgs j nj ++ suf = dgs m n) ∧ Row wr g T (bvs (pre ++ (mid.take j ++ (suf ++ post)))).toArray ∧ Below g w wr) (fun _ iv _ => (intOf iv + 1).toNat)
  case atStart =>
    refine ⟨m, n, [], Nat.le_refl _, rfl, rfl, Nat.le_refl _, by show _ = _; simp, ?_, Below.refl _ _⟩
    rw [List.take_of_length_le (by rw [HM.out]; exact Nat.le_refl _)]
    exact HR.out
  case round =>
    obtain ⟨j, nj, suf, hj, rfl, rfl, hnj, hD, hr, hB⟩ := hrel
    cases j with
    | zero =>
      have hs : Hid (suf = dgs m n) := by show _ = _; rw [← hD.out]; rfl
      have hr' : Hid (Row wr g T (bvs (pre ++ (dgs m n ++ post))).toArray) := by
        have := hr
        rw [hs.out] at this
        show Row _ _ _ _
        simpa using this
      clear hr hs hD
      go_wp2
      go_end0
      exact ⟨rfl, hr'.out, hB⟩
    | succ i =>
      have hml : i < mid.length := by rw [HM.out]; omega
      have hlen : ∃ y, (bvs (pre ++ (mid.take (i + 1) ++ (suf ++ post))))[pre.length + i]? = some (bv y) := by
        refine ⟨_, bvs_get ?_⟩
        simp only [List.length_append, List.length_take]; omega
      obtain ⟨y, hy⟩ := hlen
      have d0 : wr.cell? ⟨g, pre.length + i, none⟩ = some (bv y) := (hr.cell _).trans (by rw [List.getElem?_toArray]; exact hy)
      have f0 := hr.froz (pre.length + i)
      have g0 : (0 : Int) ≤ (i : Int) := by omega
      have g1 : (i : Int) < (m : Int) := by omega
      have R1 : Hid (Row (wr.setCell ⟨g, pre.length + i, none⟩ (.int .u8 (48 + (nj : Int) % 10))) g T (bvs (pre ++ (mid.take i ++ ((UInt8.ofNat (48 + nj % 10) :: suf) ++ post)))).toArray) := by
        have := hr.set (pre.length + i) (bv (UInt8.ofNat (48 + nj % 10)))
        rw [spl_row pre suf post mid hml] at this
        have e : (bv (UInt8.ofNat (48 + nj % 10)) : Value) = .int .u8 (48 + (nj : Int) % 10) := by
          unfold bv; rw [dg_nat]; congr 1
        rw [e] at this
        exact this
      have B1 : Hid (Below g w (wr.setCell ⟨g, pre.length + i, none⟩ (.int .u8 (48 + (nj : Int) % 10)))) := hB.setCell (Nat.le_refl _) _
      have D1 : Hid (dgs i (nj / 10) ++ (UInt8.ofNat (48 + nj % 10) :: suf) = dgs m n) := by
        show _ = _
        rw [← hD.out]; simp [dgs]
      unfold bv at d0
      generalize y.toNat = yn at *
      clear hr hB hD hy hml
      have b0 : (0 : Int) ≤ (nj : Int) := by omega
      have b1 : (0 : Int) ≤ (nj : Int) % 10 := by omega
      have b2 : (nj : Int) % 10 < 10 := by omega
      go_wp2
      go_roundw
      case rel => exact ⟨i, nj / 10, _, by omega, by go_num, by go_num, by omega, D1, R1.out, B1.out⟩
      case measure => simp [intOf]
end Go.Proofs.YtfecnogmjfmghaaDoor
