/- Layer 4: the contract of interval. -/
import Derived.Test.YtfmekmbdienbjaaEreB
namespace Go.Proofs.Ytfmekmbdienbjaa
set_option linter.unusedSimpArgs false
set_option linter.unusedVariables false
set_option linter.unnecessarySimpa false
open Go.RowKit

/-- How interval and sign end. -/
def EndS (k : Nat) (r : SR) (w : World) (e : Ending) (w' : World) : Prop :=
  match r with
  | .none => e = .returned (.tuple #[.int .i64 0, .int .i64 0, .int .i64 0, .nilIface]) ∧ w = w'
  | .some a b n => e = .returned (.tuple #[.int .i64 a, .int .i64 b, .int .i64 ((n : Int) - (k : Int)), .nilIface]) ∧ w = w'
  | .bad => e = .returned (.tuple #[.int .i64 0, .int .i64 0, .int .i64 0, .iface 47 (.pointer (some ⟨w.heap.size, 0, none⟩))]) ∧ w' = w.alloc (.cells #[.int .i64 (k : Int), .iface 41 (.int .i64 5)] 49)

set_option maxRecDepth 100000 in
set_option maxHeartbeats 8000000 in
theorem itv_core (f : Nat → Nat × Nat) {v : Value} {l : List UInt8} {w : World} (h : BS w v l) (hl : l.length ≤ 1000000000) (hf : ∀ n, n ≤ l.length → n ≤ (f n).2 ∧ (f n).2 ≤ l.length ∧ (f n).1 ≤ 999)
    (NU : Hid (∀ n : Nat, n ≤ l.length → ∀ W, W = w → Calls Try.prog 32 #[v, .int .i64 (n : Int)] W fun e w' => e = .returned (.tuple #[.int .i64 ((f n).1 : Int), .int .i64 ((f n).2 : Int)]) ∧ W = w')) (k : Nat) (hk : k < l.length) :
    Calls Try.prog 29 #[v, .int .i64 (k : Int)] w fun e w' => EndS k (itvF f l k) w e w' := by
  have IS : Hid (∀ (n : Nat) (c : UInt8), n ≤ 1000000002 → ∀ W, W = w → Calls Try.prog 16 #[v, .int .i64 (n : Int), bv c] W fun e w' => e = .returned (.bool (isL l n c)) ∧ W = w') := by intro n c hn W hW; subst hW; exact eis_u h hl n (by omega) c
  have BND : Hid (∀ a b W, Calls Try.prog 33 #[.int .i64 a, .int .i64 b] W fun e w' => e = .returned (.bool (boundsB a b)) ∧ W = w') := bnd_u
  have HF : Hid (∀ W, Calls Try.prog 11 #[.int .i64 (k : Int), .int .i64 5] W fun e w' => e = .returned (.iface 47 (.pointer (some ⟨W.heap.size, 0, none⟩))) ∧ w' = W.alloc (.cells #[.int .i64 (k : Int), .iface 41 (.int .i64 5)] 49)) := fun W => efault_u k 5 W
  have N1 := Lib.hid (NU.out (k + 1) hk)
  have hn1 := hf (k + 1) hk
  have hr : itvF f l k = itvF f l k := rfl
  conv at hr => rhs; unfold itvF
  have w0 : IntKind.i64.wrap ((k : Int) + 1) = ((k + 1 : Nat) : Int) := by rw [IntKind.wrap_i64]; omega
  obtain ⟨n1, hn1'⟩ : ∃ x, x = (f (k + 1)).1 := ⟨_, rfl⟩
  obtain ⟨m1, hm1'⟩ : ∃ x, x = (f (k + 1)).2 := ⟨_, rfl⟩
  rw [← hn1', ← hm1'] at N1 hn1 hr
  clear hn1' hm1' h
  obtain ⟨k1, hk1⟩ : ∃ x, x = k + 1 := ⟨_, rfl⟩
  rw [← hk1] at N1 hn1 hr w0
  by_cases h1 : m1 = k1
  · rw [if_pos h1] at hr
    rw [hr]
    have t1 : ((m1 : Int) == (k1 : Int)) = true := by rw [beq_iff_eq]; omega
    clear hr IS NU BND HF hk1 h1
    go_enter Try.func29, Try.ntmps29
    go_wp2_with fail
    refine (N1.out _ rfl).mono ?_; rintro e w' ⟨rfl, rfl⟩; (try dsimp only)
    go_wp2
    refine bodyPost_ret (v := .tuple #[.int .i64 0, .int .i64 0, .int .i64 0, .nilIface]) (by simp [results, Try.results29, go_sem, *]) rfl ⟨rfl, ?_⟩
    rfl
  · rw [if_neg h1] at hr
    have t1 : ((m1 : Int) == (k1 : Int)) = false := by rw [beq_eq_false_iff_ne]; omega
    clear hk1 h1
    have ic := IS.out m1 44 (by omega)
    rw [show bv 44 = .int .u8 44 from rfl] at ic
    have IC := Lib.hid ic
    clear ic
    cases h44 : isL l m1 44
    · rw [h44] at IC hr
      rw [if_neg (by decide)] at hr
      clear h44 NU
      cases h125 : isL l m1 125
      · have ie := IS.out m1 125 (by omega)
        rw [show bv 125 = .int .u8 125 from rfl] at ie
        have IE := Lib.hid ie
        clear ie
        rw [h125] at IE
        have er : itvF f l k = .none := by rw [hr]; unfold endI; rw [h125]; rfl
        rw [er]
        clear hr er h125 IS BND
        go_enter Try.func29, Try.ntmps29
        go_wp2_with fail
        refine (N1.out _ rfl).mono ?_; rintro e w' ⟨rfl, rfl⟩; (try dsimp only)
        go_wp2_with fail
        refine (IC.out _ rfl).mono ?_; rintro e w' ⟨rfl, rfl⟩; (try dsimp only)
        go_wp2_with fail
        refine (IE.out _ rfl).mono ?_; rintro e w' ⟨rfl, rfl⟩; (try dsimp only)
        go_wp2
        refine bodyPost_ret (v := .tuple #[.int .i64 0, .int .i64 0, .int .i64 0, .nilIface]) (by simp [results, Try.results29, go_sem, *]) rfl ⟨rfl, ?_⟩
        rfl
      · have ie := IS.out m1 125 (by omega)
        rw [show bv 125 = .int .u8 125 from rfl] at ie
        have IE := Lib.hid ie
        clear ie
        rw [h125] at IE
        have BN := Lib.hid (BND.out (n1 : Int) (n1 : Int))
        cases hbd : boundsB (n1 : Int) (n1 : Int)
        · rw [hbd] at BN
          have er : itvF f l k = .bad := by rw [hr]; unfold endI; rw [h125, hbd]; rfl
          rw [er]
          clear hr er h125 IS BND hbd
          go_enter Try.func29, Try.ntmps29
          go_wp2_with fail
          refine (N1.out _ rfl).mono ?_; rintro e w' ⟨rfl, rfl⟩; (try dsimp only)
          go_wp2_with fail
          refine (IC.out _ rfl).mono ?_; rintro e w' ⟨rfl, rfl⟩; (try dsimp only)
          go_wp2_with fail
          refine (IE.out _ rfl).mono ?_; rintro e w' ⟨rfl, rfl⟩; (try dsimp only)
          go_wp2_with fail
          refine (BN.out _).mono ?_; rintro e w' ⟨rfl, rfl⟩; (try dsimp only)
          go_wp2_with fail
          refine (HF.out _).mono ?_; rintro e w' ⟨rfl, rfl⟩; (try dsimp only)
          go_wp2
          refine bodyPost_ret (v := .tuple #[.int .i64 0, .int .i64 0, .int .i64 0, .iface 47 (.pointer (some ⟨w.heap.size, 0, none⟩))]) (by simp [results, Try.results29, go_sem, *]) rfl ⟨rfl, ?_⟩
          rfl
        · rw [hbd] at BN
          have er : itvF f l k = .some (n1 : Int) (n1 : Int) (m1 + 1) := by rw [hr]; unfold endI; rw [h125, hbd]; rfl
          rw [er]
          have wE : IntKind.i64.wrap ((m1 : Int) + 1) = ((m1 + 1 : Nat) : Int) := by rw [IntKind.wrap_i64]; omega
          have wF : IntKind.i64.wrap (((m1 + 1 : Nat) : Int) - (k : Int)) = ((m1 + 1 : Nat) : Int) - (k : Int) := by rw [IntKind.wrap_i64]; omega
          clear hr er h125 IS BND hbd
          unfold EndS
          generalize m1 + 1 = ee at *
          go_enter Try.func29, Try.ntmps29
          go_wp2_with fail
          refine (N1.out _ rfl).mono ?_; rintro e w' ⟨rfl, rfl⟩; (try dsimp only)
          go_wp2_with fail
          refine (IC.out _ rfl).mono ?_; rintro e w' ⟨rfl, rfl⟩; (try dsimp only)
          go_wp2_with fail
          refine (IE.out _ rfl).mono ?_; rintro e w' ⟨rfl, rfl⟩; (try dsimp only)
          go_wp2_with fail
          refine (BN.out _).mono ?_; rintro e w' ⟨rfl, rfl⟩; (try dsimp only)
          go_wp2
          refine bodyPost_ret (v := .tuple #[.int .i64 (n1 : Int), .int .i64 (n1 : Int), .int .i64 ((ee : Int) - (k : Int)), .nilIface]) (by simp [results, Try.results29, go_sem, *]) rfl ⟨rfl, ?_⟩
          rfl
    · rw [h44] at IC hr
      rw [if_pos rfl] at hr
      have hlt := (isL_lt h44).1
      have N2 := Lib.hid (NU.out (m1 + 1) hlt)
      have hn2 := hf (m1 + 1) hlt
      have w2 : IntKind.i64.wrap ((m1 : Int) + 1) = ((m1 + 1 : Nat) : Int) := by rw [IntKind.wrap_i64]; omega
      obtain ⟨n2, hn2'⟩ : ∃ x, x = (f (m1 + 1)).1 := ⟨_, rfl⟩
      obtain ⟨m2, hm2'⟩ : ∃ x, x = (f (m1 + 1)).2 := ⟨_, rfl⟩
      rw [← hn2', ← hm2'] at N2 hn2 hr
      clear h44 NU hn2' hm2'
      obtain ⟨k2, hk2⟩ : ∃ x, x = m1 + 1 := ⟨_, rfl⟩
      rw [← hk2] at N2 hn2 hr w2
      by_cases h2 : m2 = k2
      · rw [if_pos h2] at hr
        have t2 : ((m2 : Int) == (k2 : Int)) = true := by rw [beq_iff_eq]; omega
        clear hk2 h2
        cases h125 : isL l m2 125
        · have ie := IS.out m2 125 (by omega)
          rw [show bv 125 = .int .u8 125 from rfl] at ie
          have IE := Lib.hid ie
          clear ie
          rw [h125] at IE
          have er : itvF f l k = .none := by rw [hr]; unfold endI; rw [h125]; rfl
          rw [er]
          clear hr er h125 IS BND
          go_enter Try.func29, Try.ntmps29
          go_wp2_with fail
          refine (N1.out _ rfl).mono ?_; rintro e w' ⟨rfl, rfl⟩; (try dsimp only)
          go_wp2_with fail
          refine (IC.out _ rfl).mono ?_; rintro e w' ⟨rfl, rfl⟩; (try dsimp only)
          go_wp2_with fail
          refine (N2.out _ rfl).mono ?_; rintro e w' ⟨rfl, rfl⟩; (try dsimp only)
          go_wp2_with fail
          refine (IE.out _ rfl).mono ?_; rintro e w' ⟨rfl, rfl⟩; (try dsimp only)
          go_wp2
          refine bodyPost_ret (v := .tuple #[.int .i64 0, .int .i64 0, .int .i64 0, .nilIface]) (by simp [results, Try.results29, go_sem, *]) rfl ⟨rfl, ?_⟩
          rfl
        · have ie := IS.out m2 125 (by omega)
          rw [show bv 125 = .int .u8 125 from rfl] at ie
          have IE := Lib.hid ie
          clear ie
          rw [h125] at IE
          have BN := Lib.hid (BND.out (n1 : Int) (-1))
          cases hbd : boundsB (n1 : Int) (-1)
          · rw [hbd] at BN
            have er : itvF f l k = .bad := by rw [hr]; unfold endI; rw [h125, hbd]; rfl
            rw [er]
            clear hr er h125 IS BND hbd
            go_enter Try.func29, Try.ntmps29
            go_wp2_with fail
            refine (N1.out _ rfl).mono ?_; rintro e w' ⟨rfl, rfl⟩; (try dsimp only)
            go_wp2_with fail
            refine (IC.out _ rfl).mono ?_; rintro e w' ⟨rfl, rfl⟩; (try dsimp only)
            go_wp2_with fail
            refine (N2.out _ rfl).mono ?_; rintro e w' ⟨rfl, rfl⟩; (try dsimp only)
            go_wp2_with fail
            refine (IE.out _ rfl).mono ?_; rintro e w' ⟨rfl, rfl⟩; (try dsimp only)
            go_wp2_with fail
            refine (BN.out _).mono ?_; rintro e w' ⟨rfl, rfl⟩; (try dsimp only)
            go_wp2_with fail
            refine (HF.out _).mono ?_; rintro e w' ⟨rfl, rfl⟩; (try dsimp only)
            go_wp2
            refine bodyPost_ret (v := .tuple #[.int .i64 0, .int .i64 0, .int .i64 0, .iface 47 (.pointer (some ⟨w.heap.size, 0, none⟩))]) (by simp [results, Try.results29, go_sem, *]) rfl ⟨rfl, ?_⟩
            rfl
          · rw [hbd] at BN
            have er : itvF f l k = .some (n1 : Int) (-1) (m2 + 1) := by rw [hr]; unfold endI; rw [h125, hbd]; rfl
            rw [er]
            have wE : IntKind.i64.wrap ((m2 : Int) + 1) = ((m2 + 1 : Nat) : Int) := by rw [IntKind.wrap_i64]; omega
            have wF : IntKind.i64.wrap (((m2 + 1 : Nat) : Int) - (k : Int)) = ((m2 + 1 : Nat) : Int) - (k : Int) := by rw [IntKind.wrap_i64]; omega
            clear hr er h125 IS BND hbd
            unfold EndS
            generalize m2 + 1 = ee at *
            go_enter Try.func29, Try.ntmps29
            go_wp2_with fail
            refine (N1.out _ rfl).mono ?_; rintro e w' ⟨rfl, rfl⟩; (try dsimp only)
            go_wp2_with fail
            refine (IC.out _ rfl).mono ?_; rintro e w' ⟨rfl, rfl⟩; (try dsimp only)
            go_wp2_with fail
            refine (N2.out _ rfl).mono ?_; rintro e w' ⟨rfl, rfl⟩; (try dsimp only)
            go_wp2_with fail
            refine (IE.out _ rfl).mono ?_; rintro e w' ⟨rfl, rfl⟩; (try dsimp only)
            go_wp2_with fail
            refine (BN.out _).mono ?_; rintro e w' ⟨rfl, rfl⟩; (try dsimp only)
            go_wp2
            refine bodyPost_ret (v := .tuple #[.int .i64 (n1 : Int), .int .i64 (-1), .int .i64 ((ee : Int) - (k : Int)), .nilIface]) (by simp [results, Try.results29, go_sem, *]) rfl ⟨rfl, ?_⟩
            rfl
      · rw [if_neg h2] at hr
        have t2 : ((m2 : Int) == (k2 : Int)) = false := by rw [beq_eq_false_iff_ne]; omega
        clear hk2 h2
        cases h125 : isL l m2 125
        · have ie := IS.out m2 125 (by omega)
          rw [show bv 125 = .int .u8 125 from rfl] at ie
          have IE := Lib.hid ie
          clear ie
          rw [h125] at IE
          have er : itvF f l k = .none := by rw [hr]; unfold endI; rw [h125]; rfl
          rw [er]
          clear hr er h125 IS BND
          go_enter Try.func29, Try.ntmps29
          go_wp2_with fail
          refine (N1.out _ rfl).mono ?_; rintro e w' ⟨rfl, rfl⟩; (try dsimp only)
          go_wp2_with fail
          refine (IC.out _ rfl).mono ?_; rintro e w' ⟨rfl, rfl⟩; (try dsimp only)
          go_wp2_with fail
          refine (N2.out _ rfl).mono ?_; rintro e w' ⟨rfl, rfl⟩; (try dsimp only)
          go_wp2_with fail
          refine (IE.out _ rfl).mono ?_; rintro e w' ⟨rfl, rfl⟩; (try dsimp only)
          go_wp2
          refine bodyPost_ret (v := .tuple #[.int .i64 0, .int .i64 0, .int .i64 0, .nilIface]) (by simp [results, Try.results29, go_sem, *]) rfl ⟨rfl, ?_⟩
          rfl
        · have ie := IS.out m2 125 (by omega)
          rw [show bv 125 = .int .u8 125 from rfl] at ie
          have IE := Lib.hid ie
          clear ie
          rw [h125] at IE
          have BN := Lib.hid (BND.out (n1 : Int) (n2 : Int))
          cases hbd : boundsB (n1 : Int) (n2 : Int)
          · rw [hbd] at BN
            have er : itvF f l k = .bad := by rw [hr]; unfold endI; rw [h125, hbd]; rfl
            rw [er]
            clear hr er h125 IS BND hbd
            go_enter Try.func29, Try.ntmps29
            go_wp2_with fail
            refine (N1.out _ rfl).mono ?_; rintro e w' ⟨rfl, rfl⟩; (try dsimp only)
            go_wp2_with fail
            refine (IC.out _ rfl).mono ?_; rintro e w' ⟨rfl, rfl⟩; (try dsimp only)
            go_wp2_with fail
            refine (N2.out _ rfl).mono ?_; rintro e w' ⟨rfl, rfl⟩; (try dsimp only)
            go_wp2_with fail
            refine (IE.out _ rfl).mono ?_; rintro e w' ⟨rfl, rfl⟩; (try dsimp only)
            go_wp2_with fail
            refine (BN.out _).mono ?_; rintro e w' ⟨rfl, rfl⟩; (try dsimp only)
            go_wp2_with fail
            refine (HF.out _).mono ?_; rintro e w' ⟨rfl, rfl⟩; (try dsimp only)
            go_wp2
            refine bodyPost_ret (v := .tuple #[.int .i64 0, .int .i64 0, .int .i64 0, .iface 47 (.pointer (some ⟨w.heap.size, 0, none⟩))]) (by simp [results, Try.results29, go_sem, *]) rfl ⟨rfl, ?_⟩
            rfl
          · rw [hbd] at BN
            have er : itvF f l k = .some (n1 : Int) (n2 : Int) (m2 + 1) := by rw [hr]; unfold endI; rw [h125, hbd]; rfl
            rw [er]
            have wE : IntKind.i64.wrap ((m2 : Int) + 1) = ((m2 + 1 : Nat) : Int) := by rw [IntKind.wrap_i64]; omega
            have wF : IntKind.i64.wrap (((m2 + 1 : Nat) : Int) - (k : Int)) = ((m2 + 1 : Nat) : Int) - (k : Int) := by rw [IntKind.wrap_i64]; omega
            clear hr er h125 IS BND hbd
            unfold EndS
            generalize m2 + 1 = ee at *
            go_enter Try.func29, Try.ntmps29
            go_wp2_with fail
            refine (N1.out _ rfl).mono ?_; rintro e w' ⟨rfl, rfl⟩; (try dsimp only)
            go_wp2_with fail
            refine (IC.out _ rfl).mono ?_; rintro e w' ⟨rfl, rfl⟩; (try dsimp only)
            go_wp2_with fail
            refine (N2.out _ rfl).mono ?_; rintro e w' ⟨rfl, rfl⟩; (try dsimp only)
            go_wp2_with fail
            refine (IE.out _ rfl).mono ?_; rintro e w' ⟨rfl, rfl⟩; (try dsimp only)
            go_wp2_with fail
            refine (BN.out _).mono ?_; rintro e w' ⟨rfl, rfl⟩; (try dsimp only)
            go_wp2
            refine bodyPost_ret (v := .tuple #[.int .i64 (n1 : Int), .int .i64 (n2 : Int), .int .i64 ((ee : Int) - (k : Int)), .nilIface]) (by simp [results, Try.results29, go_sem, *]) rfl ⟨rfl, ?_⟩
            rfl
theorem itv_u {v : Value} {l : List UInt8} {w : World} (h : BS w v l) (hl : l.length ≤ 1000000000) (k : Nat) (hk : k < l.length) :
    Calls Try.prog 29 #[v, .int .i64 (k : Int)] w fun e w' => EndS k (itvL l k) w e w' :=
  itv_core (numL l) h hl (fun n hn => by have := numL_le l n hn; exact ⟨this.1, this.2.2.1, this.2.2.2⟩) (by intro n hn W hW; subst hW; exact num_u h hl n hn) k hk
end Go.Proofs.Ytfmekmbdienbjaa
