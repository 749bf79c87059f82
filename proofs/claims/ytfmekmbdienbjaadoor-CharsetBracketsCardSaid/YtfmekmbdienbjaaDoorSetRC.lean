/- The document's own Bracket, without ^. -/
import Derived.Test.YtfmekmbdienbjaaDoorSetRA
import Derived.Test.YtfmekmbdienbjaaDoorSetRB
import Derived.Test.YtfmekmbdienbjaaDoorSetRH
import Derived.Test.YtfmekmbdienbjaaDoorSetIn
import Derived.Test.YtfmekmbdienbjaaDoorSetM
namespace Go.Proofs.YtfmekmbdienbjaaDoor
set_option linter.unusedSimpArgs false
set_option linter.unusedVariables false
set_option linter.unnecessarySimpa false
open Go.RowKit

set_option maxRecDepth 100000 in
set_option maxHeartbeats 32000000 in
theorem rbrk_f (l : List UInt8) (hl : l.length ≤ 1000000000) (k : Nat) (hk : isL l k 91 = true) (ho : isL l (k + 1) 94 = false) (R : MR) (hR : RunB l (k + 1) true nonP R) (w : World) :
    Calls Tryd.prog 8 #[.string (S8 l), .int .i64 (k : Int)] w fun e w' => EndG false k R w e w' := by
  have L1 : ∀ ty w, (Builtin.len_ #[9] ty #[.string (S8 l)]).run Tryd.prog w = .ok (.int .i64 (l.length : Int)) w := fun ty w => s8_len l ty w
  have hkl := isL_lt hk
  have hlt : k < l.length := hkl.1
  have i0 := s8_at l k hlt (k : Int) rfl
  rw [hkl.2, show bv 91 = .int .u8 91 from rfl] at i0
  obtain ⟨a1, ha1⟩ : ∃ y, y = k + 1 := ⟨_, rfl⟩
  have wA : IntKind.i64.wrap ((k : Int) + 1) = (a1 : Int) := by rw [IntKind.wrap_i64]; omega
  have t0 : decide ((k : Int) < 0) = false := decide_eq_false (by omega)
  have t2 : decide (l.length ≤ k) = false := decide_eq_false (by omega)
  have I94 : Hid (∀ W, Calls Tryd.prog 27 #[.string (S8 l), .int .i64 (a1 : Int), .string ⟨#[94]⟩] W fun e w' => e = .returned (.bool false) ∧ W = w') := fun W => by
    have := ris_u l [94] hl (by simp) a1 (by omega) W
    rw [isT1, ha1, ho] at this
    rw [ha1]
    exact this
  have I93 : Hid (∀ n : Nat, n ≤ l.length → ∀ W, Calls Tryd.prog 27 #[.string (S8 l), .int .i64 (n : Int), .string ⟨#[93]⟩] W fun e w' => e = .returned (.bool (isL l n 93)) ∧ W = w') := fun n hn W => by
    have := ris_u l [93] hl (by simp) n (by omega) W
    rw [isT1] at this
    exact this
  have IBB : Hid (∀ n : Nat, n ≤ 1000000002 → ∀ W, Calls Tryd.prog 27 #[.string (S8 l), .int .i64 (n : Int), .string ⟨#[91, 58]⟩] W fun e w' => e = .returned (.bool (begL l n 91 58)) ∧ W = w') := fun n hn W => by
    have := ris_u l [91, 58] hl (by simp) n (by omega) W
    rw [isT2] at this
    exact this
  have OB : Hid (∀ n : Nat, n ≤ 1000000002 → letL l n = none → ∀ W, Calls Tryd.prog 29 #[.string (S8 l), .int .i64 (n : Int)] W fun e w' => e = .returned (.tuple #[.int .u8 0, .int .i64 0]) ∧ W = w') := fun n hn hr W => one_bad l hl n (by omega) hr W
  have OK1 : Hid (∀ (n : Nat) (c : UInt8) (m : Nat), letL l n = some (c, m) → ∀ W, Calls Tryd.prog 29 #[.string (S8 l), .int .i64 (n : Int)] W fun e w' => e = .returned (.tuple #[bv c, .int .i64 ((m : Int) - (n : Int))]) ∧ W = w') := fun n c m hr W => one_ok l hl n c m hr W
  have IDS : Hid (∀ n : Nat, n ≤ 1000000002 → ∀ W, Calls Tryd.prog 27 #[.string (S8 l), .int .i64 (n : Int), .string ⟨#[45]⟩] W fun e w' => e = .returned (.bool (isL l n 45)) ∧ W = w') := fun n hn W => by
    have := ris_u l [45] hl (by simp) n (by omega) W
    rw [isT1] at this
    exact this
  have IDB : Hid (∀ n : Nat, n ≤ 1000000002 → ∀ W, Calls Tryd.prog 27 #[.string (S8 l), .int .i64 (n : Int), .string ⟨#[45, 93]⟩] W fun e w' => e = .returned (.bool (begL l n 45 93)) ∧ W = w') := fun n hn W => by
    have := ris_u l [45, 93] hl (by simp) n (by omega) W
    rw [isT2] at this
    exact this
  have ICL : Hid (∀ n : Nat, n ≤ 1000000002 → ∀ W, Calls Tryd.prog 27 #[.string (S8 l), .int .i64 (n : Int), .string ⟨#[58, 93]⟩] W fun e w' => e = .returned (.bool (begL l n 58 93)) ∧ W = w') := fun n hn W => by
    have := ris_u l [58, 93] hl (by simp) n (by omega) W
    rw [isT2] at this
    exact this
  have SLL : Hid (∀ i j : Nat, i ≤ j → j ≤ l.length → ∀ W, (Instr.slice 9 (.string (S8 l)) (some (.int .i64 (i : Int))) (some (.int .i64 (j : Int))) none).run Tryd.prog W = .ok (.string (S8 ((l.drop i).take (j - i)))) W) := fun i j hi hj W => s8_mid l i j hi hj _ _ rfl rfl W
  have hR0 : Hid (RunB l a1 true nonP R) := by show RunB _ _ _ _ _; rw [ha1]; exact hR
  have hZ := Lib.hid sZ_eq
  have hst : a1 ≤ l.length := by omega
  have hk9 : k ≤ 1000000000 := by omega
  have ha9 : a1 ≤ 1000000001 := by omega
  clear hR ho hk hkl ha1
  generalize hsl : S8 l = sl at *
  clear hsl
  go_enter Tryd.func8, Tryd.ntmps8
  go_upto_region 4 with fail
  have r1 : Hid (Row ((w.alloc (.cells gZ 34)).alloc (.cells (bolA nonP) 32)) w.heap.size 34 gZ) := (Row.new w _ _).alloc _
  have r2 : Hid (Row ((w.alloc (.cells gZ 34)).alloc (.cells (bolA nonP) 32)) (w.heap.size + 1) 32 (bolA nonP)) := by
    have := Row.new (w.alloc (.cells gZ 34)) 32 (bolA nonP)
    rw [show (w.alloc (.cells gZ 34)).heap.size = w.heap.size + 1 by simp] at this
    exact this
  have hB1 : Hid (Below w.heap.size w ((w.alloc (.cells gZ 34)).alloc (.cells (bolA nonP) 32))) := by show Below _ _ _; repeat (first | (with_reducible exact Below.refl _ _) | (with_reducible refine Below.drew ?_) | (refine Below.setCell ?_ (by first | exact Nat.le_refl _ | (simp; done) | (simp; omega) | omega) _) | (refine Below.alloc ?_ (by first | exact Nat.le_refl _ | (simp; done) | (simp; omega) | omega) _) | (refine Below.trans ?_ (Below.mono (by assumption) (by first | exact Nat.le_refl _ | (simp; done) | (simp; omega) | omega))))
  rw [hZ.out]
  generalize ((w.alloc (.cells gZ 34)).alloc (.cells (bolA nonP) 32)) = w1 at *
  go_wp2_with fail
  refine (I94.out _).mono ?_; rintro e w' ⟨rfl, rfl⟩; (try dsimp only)
  go_wp2_with fail
  go_loopw [6, 8] (fun t6 t8 wr => ∃ (n : Nat) (f : Bool) (p : Nat → Bool), t6 = .int .i64 (n : Int) ∧ t8 = .bool f ∧ n ≤ l.length ∧ Hid (RunB l n f p R) ∧ Row wr w.heap.size 34 gZ ∧ Row wr (w.heap.size + 1) 32 (bolA p) ∧ Below w.heap.size w wr) (fun t6 _ _ => l.length - (intOf t6).toNat)
  case atStart => exact ⟨a1, true, nonP, rfl, rfl, hst, hR0.out, r1.out, r2.out, hB1.out⟩
  case round =>
    obtain ⟨n, f, p, rfl, rfl, hn, hrun, r, rs, hB⟩ := hrel
    have hi := I93.out n hn
    rcases runB_inv hrun.out with ⟨rfl, hs, rfl⟩ | ⟨hgo, hcase⟩
    · rw [hs] at hi
      have hi := Lib.hid hi
      have wC : IntKind.i64.wrap ((n : Int) + 1) = (n : Int) + 1 := by rw [IntKind.wrap_i64]; omega
      have wD : IntKind.i64.wrap ((n : Int) + 1 - (k : Int)) = (n : Int) + 1 - (k : Int) := by rw [IntKind.wrap_i64]; omega
      clear hrun hs I93 I94 hR0 r1 r2 hB1
      go_wp2_with fail
      refine (hi.out _).mono ?_; rintro e w' ⟨rfl, rfl⟩; (try dsimp only)
      go_upto_region 52 with fail
      refine wp_region_lit ?_
      refine wpList_load_row rfl 32 (.tmp 5) rfl (w.heap.size + 1) rfl 32 (bolA p) (0, 0) _ rs Tryd.underlying32 rfl (by rw [sZ_info, bolA_size]) ?_
      have hfd := fold_good p
      have hsz := bolA_size p
      have hbg := baseG_size p
      have HG : Hid (goodG (turnP false p) ((n : Int) + 1 - (k : Int)) = goodG p ((n : Int) + 1 - (k : Int))) := rfl
      have hst : (storeCells ⟨w.heap.size, 0, none⟩ ((baseG p).toList.set 256 (.int .i64 ((n : Int) + 1 - (k : Int))))).run Tryd.prog wr = .ok () (wr.setRow w.heap.size (goodG p ((n : Int) + 1 - (k : Int))).toArray) := got_store r gZ_size (goodG p ((n : Int) + 1 - (k : Int))) (goodG_len _ _) (goodG_one _ _)
      have hrw := Lib.hid (got_row r (goodG p ((n : Int) + 1 - (k : Int))))
      have hGL : Hid ((goodG p ((n : Int) + 1 - (k : Int))).length = 259) := goodG_len _ _
      have h8 : Hid (Below w.heap.size w (wr.setRow w.heap.size (goodG p ((n : Int) + 1 - (k : Int))).toArray)) := below_setRow hB (Nat.le_refl _) _
      generalize goodG p ((n : Int) + 1 - (k : Int)) = G at *
      generalize baseG p = BG at *
      generalize bolA p = AA at *
      rw [hsz] at hfd
      go_wp2
      all_goals first | exact bodyPost_ret (got_ret hrw.out hGL.out _ rfl) rfl (show EndG false k (.ok p n) w _ _ from ⟨by rw [HG.out], h8.out⟩) | (exfalso; simp_all; done) | (exfalso; omega)
    · have HC := Lib.hid hcase
      have hca : f = true ∨ (f = false ∧ isL l n 93 = false) := by
        cases f with
        | true => exact Or.inl rfl
        | false =>
          rcases hgo with h1 | h1
          · cases h1
          · exact Or.inr ⟨rfl, h1⟩
      have HIB := Lib.hid (IBB.out n (by omega))
      clear hcase hgo hrun I93 I94 hR0 r1 r2 hB1
      rcases hca with rfl | ⟨rfl, hs⟩
      · skip
        clear hi
        cases hbg0 : begL l n 91 58
        · rw [hbg0] at HIB
          cases hL : letL l n with
          | none =>
            have hm : memM l n = .bad l.length 7 := by unfold memM; rw [hbg0, hL]; rfl
            obtain rfl : R = .bad l.length 7 := by
              rcases HC.out with ⟨a, c, h1, h2⟩ | ⟨q, m', h1, _⟩
              · rw [hm] at h1; rw [h2]; exact h1.symm
              · rw [hm] at h1; cases h1
            have ob := Lib.hid (OB.out n (by omega) hL)
            have hst := got_store r gZ_size (badG 7 (l.length : Int)) (badG_len _ _) (badG_one _ _)
            unfold badG at hst
            have hrw := Lib.hid (got_row r (badG 7 (l.length : Int)))
            have h8 : Hid (Below w.heap.size w (wr.setRow w.heap.size (badG 7 (l.length : Int)).toArray)) := below_setRow hB (Nat.le_refl _) _
            have hGL : Hid ((badG 7 (l.length : Int)).length = 259) := badG_len _ _
            unfold badG at hrw h8 hGL
            clear hm hL hbg0 HC IBB OB OK1
            go_wp2_with fail
            refine (HIB.out _).mono ?_; rintro e w' ⟨rfl, rfl⟩; (try dsimp only)
            go_wp2_with fail
            refine (ob.out _).mono ?_; rintro e w' ⟨rfl, rfl⟩; (try dsimp only)
            go_wp2
            exact bodyPost_ret (got_ret hrw.out hGL.out _ rfl) rfl (show EndG false k (.bad l.length 7) w _ _ from ⟨rfl, h8.out⟩)
          | some z =>
            obtain ⟨c, m⟩ := z
            have hle := letL_le hL
            cases hd : isL l m 45
            · have ok := Lib.hid (OK1.out n c m hL)
              have id1 := IDS.out m (by omega)
              rw [hd] at id1
              have ID1 := Lib.hid id1
              have hz : (((m : Int) - (n : Int)) == 0) = false := by rw [beq_eq_false_iff_ne]; omega
              have wS : IntKind.i64.wrap ((n : Int) + ((m : Int) - (n : Int))) = (m : Int) := by rw [IntKind.wrap_i64]; omega
              have wM : IntKind.i64.wrap ((m : Int) + 1) = ((m + 1 : Nat) : Int) := by rw [IntKind.wrap_i64]; omega
              have hm : memM l n = .ok (rngP c.toNat c.toNat) m := by
                have h3 : goesL l m = false := by unfold goesL; rw [hd]; rfl
                unfold memM; rw [hbg0, hL]; simp only [Bool.false_eq_true, if_false]; rw [h3]; rfl
              have hrun2 : RunB l m false (fun x => p x || rngP c.toNat c.toNat x) R := by
                rcases HC.out with ⟨a, e, h1, _⟩ | ⟨q, m', h1, h2⟩
                · rw [hm] at h1; cases h1
                · rw [hm] at h1; injection h1 with e1 e2; subst e1 e2; exact h2
              have HR2 := Lib.hid hrun2
              have hm9 : Hid (n < m ∧ m ≤ l.length) := (by omega : n < m ∧ m ≤ l.length)
              have hx := c.toNat_lt
              have hF0 : Hid (bolA (fillP p c.toNat c.toNat) = bolA p) := fillP_0 _ _
              have hF1 : Hid (∀ j, c.toNat ≤ j → j < 256 → (bolA (fillP p c.toNat j)).setIfInBounds j (.bool true) = bolA (fillP p c.toNat (j + 1))) := fun j h1 h2 => fillP_set p h1 h2
              have hF2 : Hid (∀ j, j = c.toNat + 1 → bolA (fillP p c.toNat j) = bolA (fun x => p x || rngP c.toNat c.toNat x)) := fun j h => fillP_end p (Or.inl h)
              clear hm hL hbg0 HC IBB OB OK1 id1 hd hrun2 IDS
              unfold bv at ok
              generalize c.toNat = x at *
              generalize (fun y => p y || rngP x x y) = P at *
              have wX : IntKind.i64.wrap (x : Int) = (x : Int) := by rw [IntKind.wrap_i64]; omega
              go_wp2_with fail
              refine (HIB.out _).mono ?_; rintro e w' ⟨rfl, rfl⟩; (try dsimp only)
              go_wp2_with fail
              refine (ok.out _).mono ?_; rintro e w' ⟨rfl, rfl⟩; (try dsimp only)
              go_wp2_with fail
              refine (ID1.out _).mono ?_; rintro e w' ⟨rfl, rfl⟩; (try dsimp only)
              go_wp2
              obtain ⟨wq, hwq⟩ : ∃ q, q = wr := ⟨_, rfl⟩
              subst hwq
              go_loopw [22] (fun t22 wv => ∃ j : Nat, x ≤ j ∧ j ≤ x + 1 ∧ t22 = .int .i64 (j : Int) ∧ Row wv w.heap.size 34 gZ ∧ Row wv (w.heap.size + 1) 32 (bolA (fillP p x j)) ∧ Below w.heap.size w wv) (fun t22 _ => x + 1 - (intOf t22).toNat)
              case atStart => exact ⟨x, Nat.le_refl _, by omega, rfl, r, by rw [hF0.out]; exact rs, hB⟩
              case round =>
                obtain ⟨j, hj1, hj2, rfl, q1, q2, q3⟩ := hrel
                by_cases hjx : j ≤ x
                · have tj : decide ((j : Int) ≤ (x : Int)) = true := decide_eq_true (by omega)
                  have tj' : decide (j ≤ x) = true := decide_eq_true hjx
                  have hj0 : (0 : Int) ≤ (j : Int) := by omega
                  have hj256 : (j : Int) < 256 := by omega
                  have kx := (q2.cell j).trans (bolA_get _ (by omega : j < 256))
                  have fx := q2.froz j
                  have QQ := Lib.hid (And.intro q1 (And.intro q2 q3))
                  have hst2 := Lib.hid (hF1.out j hj1 (by omega))
                  clear q1 q2 q3
                  go_wp2
                  go_roundw
                  case rel =>
                    obtain ⟨q1, q2, q3⟩ := QQ.out
                    refine ⟨j + 1, by omega, by omega, by go_num, q1.far (by simp) _, ?_, ?_⟩
                    · have := q2.set j (.bool true)
                      rw [hst2.out] at this
                      exact this
                    · repeat (first | (with_reducible exact Below.refl _ _) | (with_reducible refine Below.drew ?_) | (refine Below.setCell ?_ (by first | exact Nat.le_refl _ | (simp; done) | (simp; omega) | omega) _) | (refine Below.alloc ?_ (by first | exact Nat.le_refl _ | (simp; done) | (simp; omega) | omega) _) | (refine Below.trans ?_ (Below.mono (by assumption) (by first | exact Nat.le_refl _ | (simp; done) | (simp; omega) | omega))))
                  case measure => simp [intOf]; omega
                · have tj : decide ((j : Int) ≤ (x : Int)) = false := decide_eq_false (by omega)
                  have tj' : decide (j ≤ x) = false := decide_eq_false hjx
                  have hq2 := hF2.out j (by omega)
                  rw [hq2] at q2
                  go_wp2
                  go_roundw
                  case rel => exact ⟨m, false, P, rfl, rfl, by omega, HR2.out, q1, q2, q3⟩
                  case measure => have h9 := hm9.out; simp [intOf]; omega
            · have ok := Lib.hid (OK1.out n c m hL)
              have id1 := IDS.out m (by omega)
              rw [hd] at id1
              have ID1 := Lib.hid id1
              have hz : (((m : Int) - (n : Int)) == 0) = false := by rw [beq_eq_false_iff_ne]; omega
              have wS : IntKind.i64.wrap ((n : Int) + ((m : Int) - (n : Int))) = (m : Int) := by rw [IntKind.wrap_i64]; omega
              have wM : IntKind.i64.wrap ((m : Int) + 1) = ((m + 1 : Nat) : Int) := by rw [IntKind.wrap_i64]; omega
              cases h93 : isL l (m + 1) 93
              · cases hib : begL l (m + 1) 91 58
                · cases hln : letL l (m + 1) with
                  | none =>
                    obtain rfl : R = .bad l.length 7 := by
                      by_cases he : m + 1 = l.length
                      · have hm : memM l n = .ok (rngP c.toNat c.toNat) m := by
                          have h3 : goesL l m = false := by unfold goesL; rw [decide_eq_false (by omega : ¬ m + 1 < l.length), Bool.false_and, Bool.and_false]
                          unfold memM; rw [hbg0, hL]; simp only [Bool.false_eq_true, if_false]; rw [h3]; rfl
                        rcases HC.out with ⟨a, e, h1, _⟩ | ⟨q, m', h1, h2⟩
                        · rw [hm] at h1; cases h1
                        · rw [hm] at h1; injection h1 with e1 e2; subst e1 e2; exact dash_end he hd h2
                      · have hlt2 : m + 1 < l.length := by have := (isL_lt hd).1; omega
                        have h3 : goesL l m = true := by
                          unfold goesL; rw [hd, decide_eq_true hlt2]
                          have h4 : l.getD (m + 1) 0 ≠ 93 := by
                            intro h5; unfold isL at h93; rw [decide_eq_true hlt2, h5] at h93; simp at h93
                          show (true && (true && (l.getD (m + 1) 0 != 93))) = true
                          rw [Bool.true_and, Bool.true_and, bne_iff_ne]; exact h4
                        have hm : memM l n = .bad l.length 7 := by
                          unfold memM; rw [hbg0, hL]; simp only [Bool.false_eq_true, if_false]; rw [h3, hib, hln]; rfl
                        rcases HC.out with ⟨a, c, h1, h2⟩ | ⟨q, m', h1, _⟩
                        · rw [hm] at h1; rw [h2]; exact h1.symm
                        · rw [hm] at h1; cases h1
                    have id2 := IDB.out m (by omega)
                    rw [show begL l m 45 93 = false by unfold begL; rw [h93, Bool.and_false]] at id2
                    have ID2 := Lib.hid id2
                    have ib2 := IBB.out (m + 1) (by omega)
                    rw [hib] at ib2
                    have IB2 := Lib.hid ib2
                    have ob := Lib.hid (OB.out (m + 1) (by omega) hln)
                    have hst := got_store r gZ_size (badG 7 (l.length : Int)) (badG_len _ _) (badG_one _ _)
                    unfold badG at hst
                    have hrw := Lib.hid (got_row r (badG 7 (l.length : Int)))
                    have h8 : Hid (Below w.heap.size w (wr.setRow w.heap.size (badG 7 (l.length : Int)).toArray)) := below_setRow hB (Nat.le_refl _) _
                    have hGL : Hid ((badG 7 (l.length : Int)).length = 259) := badG_len _ _
                    unfold badG at hrw h8 hGL
                    clear hL hbg0 HC IBB OB OK1 id1 id2 ib2 hd IDS IDB h93 hib hln
                    unfold bv at ok
                    generalize c.toNat = x at *
                    generalize m + 1 = mm at *
                    go_wp2_with fail
                    refine (HIB.out _).mono ?_; rintro e w' ⟨rfl, rfl⟩; (try dsimp only)
                    go_wp2_with fail
                    refine (ok.out _).mono ?_; rintro e w' ⟨rfl, rfl⟩; (try dsimp only)
                    go_wp2_with fail
                    refine (ID1.out _).mono ?_; rintro e w' ⟨rfl, rfl⟩; (try dsimp only)
                    go_wp2_with fail
                    refine (ID2.out _).mono ?_; rintro e w' ⟨rfl, rfl⟩; (try dsimp only)
                    go_wp2_with fail
                    refine (IB2.out _).mono ?_; rintro e w' ⟨rfl, rfl⟩; (try dsimp only)
                    go_wp2_with fail
                    refine (ob.out _).mono ?_; rintro e w' ⟨rfl, rfl⟩; (try dsimp only)
                    go_wp2
                    exact bodyPost_ret (got_ret hrw.out hGL.out _ rfl) rfl (show EndG false k (.bad l.length 7) w _ _ from ⟨rfl, h8.out⟩)
                  | some z2 =>
                    obtain ⟨t, m'⟩ := z2
                    by_cases htc : t.toNat < c.toNat
                    · skip
                      have hle2 := letL_le hln
                      have hlt2 : m + 1 < l.length := by omega
                      have h3 : goesL l m = true := by
                        unfold goesL; rw [hd, decide_eq_true hlt2]
                        have h4 : l.getD (m + 1) 0 ≠ 93 := by
                          intro h5; unfold isL at h93; rw [decide_eq_true hlt2, h5] at h93; simp at h93
                        show (true && (true && (l.getD (m + 1) 0 != 93))) = true
                        rw [Bool.true_and, Bool.true_and, bne_iff_ne]; exact h4
                      have hm : memM l n = .bad n 4 := by
                        unfold memM; rw [hbg0, hL]; simp only [Bool.false_eq_true, if_false]; rw [h3, hib, hln]; simp [htc]
                      obtain rfl : R = .bad n 4 := by
                        rcases HC.out with ⟨a, c, h1, h2⟩ | ⟨q, m', h1, _⟩
                        · rw [hm] at h1; rw [h2]; exact h1.symm
                        · rw [hm] at h1; cases h1
                      have id2 := IDB.out m (by omega)
                      rw [show begL l m 45 93 = false by unfold begL; rw [h93, Bool.and_false]] at id2
                      have ID2 := Lib.hid id2
                      have ib2 := IBB.out (m + 1) (by omega)
                      rw [hib] at ib2
                      have IB2 := Lib.hid ib2
                      have ok2 := Lib.hid (OK1.out (m + 1) t m' hln)
                      have hz2 : (((m' : Int) - ((m + 1 : Nat) : Int)) == 0) = false := by rw [beq_eq_false_iff_ne]; omega
                      have ty : decide (t.toNat < c.toNat) = true := decide_eq_true htc
                      have tyI : decide ((t.toNat : Int) < (c.toNat : Int)) = true := decide_eq_true (by omega)
                      have hst := got_store r gZ_size (badG 4 (n : Int)) (badG_len _ _) (badG_one _ _)
                      unfold badG at hst
                      have hrw := Lib.hid (got_row r (badG 4 (n : Int)))
                      have h8 : Hid (Below w.heap.size w (wr.setRow w.heap.size (badG 4 (n : Int)).toArray)) := below_setRow hB (Nat.le_refl _) _
                      have hGL : Hid ((badG 4 (n : Int)).length = 259) := badG_len _ _
                      unfold badG at hrw h8 hGL
                      clear hm hL hbg0 HC IBB OB OK1 id1 id2 ib2 hd IDS IDB h93 hib h3 hln htc
                      unfold bv at ok ok2
                      generalize c.toNat = x at *
                      generalize t.toNat = y at *
                      generalize m + 1 = mm at *
                      go_wp2_with fail
                      refine (HIB.out _).mono ?_; rintro e w' ⟨rfl, rfl⟩; (try dsimp only)
                      go_wp2_with fail
                      refine (ok.out _).mono ?_; rintro e w' ⟨rfl, rfl⟩; (try dsimp only)
                      go_wp2_with fail
                      refine (ID1.out _).mono ?_; rintro e w' ⟨rfl, rfl⟩; (try dsimp only)
                      go_wp2_with fail
                      refine (ID2.out _).mono ?_; rintro e w' ⟨rfl, rfl⟩; (try dsimp only)
                      go_wp2_with fail
                      refine (IB2.out _).mono ?_; rintro e w' ⟨rfl, rfl⟩; (try dsimp only)
                      go_wp2_with fail
                      refine (ok2.out _).mono ?_; rintro e w' ⟨rfl, rfl⟩; (try dsimp only)
                      go_wp2
                      exact bodyPost_ret (got_ret hrw.out hGL.out _ rfl) rfl (show EndG false k (.bad n 4) w _ _ from ⟨rfl, h8.out⟩)
                    · skip
                      have hle2 := letL_le hln
                      have hlt2 : m + 1 < l.length := by omega
                      have h3 : goesL l m = true := by
                        unfold goesL; rw [hd, decide_eq_true hlt2]
                        have h4 : l.getD (m + 1) 0 ≠ 93 := by
                          intro h5; unfold isL at h93; rw [decide_eq_true hlt2, h5] at h93; simp at h93
                        show (true && (true && (l.getD (m + 1) 0 != 93))) = true
                        rw [Bool.true_and, Bool.true_and, bne_iff_ne]; exact h4
                      have hm : memM l n = .ok (rngP c.toNat t.toNat) m' := by
                        unfold memM; rw [hbg0, hL]; simp only [Bool.false_eq_true, if_false]; rw [h3, hib, hln]; simp [htc]
                      have hrun2 : RunB l m' false (fun x => p x || rngP c.toNat t.toNat x) R := by
                        rcases HC.out with ⟨a, e, h1, _⟩ | ⟨q, m', h1, h2⟩
                        · rw [hm] at h1; cases h1
                        · rw [hm] at h1; injection h1 with e1 e2; subst e1 e2; exact h2
                      have HR2 := Lib.hid hrun2
                      have id2 := IDB.out m (by omega)
                      rw [show begL l m 45 93 = false by unfold begL; rw [h93, Bool.and_false]] at id2
                      have ID2 := Lib.hid id2
                      have ib2 := IBB.out (m + 1) (by omega)
                      rw [hib] at ib2
                      have IB2 := Lib.hid ib2
                      have ok2 := Lib.hid (OK1.out (m + 1) t m' hln)
                      have hz2 : (((m' : Int) - ((m + 1 : Nat) : Int)) == 0) = false := by rw [beq_eq_false_iff_ne]; omega
                      have ty : decide (t.toNat < c.toNat) = false := decide_eq_false htc
                      have tyI : decide ((t.toNat : Int) < (c.toNat : Int)) = false := decide_eq_false (by omega)
                      have wT : IntKind.i64.wrap (((m + 1 : Nat) : Int) + ((m' : Int) - ((m + 1 : Nat) : Int))) = (m' : Int) := by rw [IntKind.wrap_i64]; omega
                      have hcy : c.toNat ≤ t.toNat := by omega
                      have hy := t.toNat_lt
                      have hm9 : Hid (n < m' ∧ m' ≤ l.length) := (by omega : n < m' ∧ m' ≤ l.length)
                      have hx := c.toNat_lt
                      have hF0 : Hid (bolA (fillP p c.toNat c.toNat) = bolA p) := fillP_0 _ _
                      have hF1 : Hid (∀ j, c.toNat ≤ j → j < 256 → (bolA (fillP p c.toNat j)).setIfInBounds j (.bool true) = bolA (fillP p c.toNat (j + 1))) := fun j h1 h2 => fillP_set p h1 h2
                      have hF2 : Hid (∀ j, j = t.toNat + 1 → bolA (fillP p c.toNat j) = bolA (fun x => p x || rngP c.toNat t.toNat x)) := fun j h => fillP_end p (Or.inl h)
                      clear hm hL hbg0 HC IBB OB OK1 id1 id2 ib2 hd IDS IDB h93 hib h3 hln htc hrun2
                      unfold bv at ok ok2
                      generalize c.toNat = x at *
                      generalize t.toNat = y at *
                      generalize m + 1 = mm at *
                      generalize (fun z => p z || rngP x y z) = P at *
                      have wX : IntKind.i64.wrap (x : Int) = (x : Int) := by rw [IntKind.wrap_i64]; omega
                      have wY : IntKind.i64.wrap (y : Int) = (y : Int) := by rw [IntKind.wrap_i64]; omega
                      go_wp2_with fail
                      refine (HIB.out _).mono ?_; rintro e w' ⟨rfl, rfl⟩; (try dsimp only)
                      go_wp2_with fail
                      refine (ok.out _).mono ?_; rintro e w' ⟨rfl, rfl⟩; (try dsimp only)
                      go_wp2_with fail
                      refine (ID1.out _).mono ?_; rintro e w' ⟨rfl, rfl⟩; (try dsimp only)
                      go_wp2_with fail
                      refine (ID2.out _).mono ?_; rintro e w' ⟨rfl, rfl⟩; (try dsimp only)
                      go_wp2_with fail
                      refine (IB2.out _).mono ?_; rintro e w' ⟨rfl, rfl⟩; (try dsimp only)
                      go_wp2_with fail
                      refine (ok2.out _).mono ?_; rintro e w' ⟨rfl, rfl⟩; (try dsimp only)
                      go_wp2
                      obtain ⟨wq, hwq⟩ : ∃ q, q = wr := ⟨_, rfl⟩
                      subst hwq
                      go_loopw [22] (fun t22 wv => ∃ j : Nat, x ≤ j ∧ j ≤ y + 1 ∧ t22 = .int .i64 (j : Int) ∧ Row wv w.heap.size 34 gZ ∧ Row wv (w.heap.size + 1) 32 (bolA (fillP p x j)) ∧ Below w.heap.size w wv) (fun t22 _ => y + 1 - (intOf t22).toNat)
                      case atStart => exact ⟨x, Nat.le_refl _, by omega, rfl, r, by rw [hF0.out]; exact rs, hB⟩
                      case round =>
                        obtain ⟨j, hj1, hj2, rfl, q1, q2, q3⟩ := hrel
                        by_cases hjx : j ≤ y
                        · have tj : decide ((j : Int) ≤ (y : Int)) = true := decide_eq_true (by omega)
                          have tj' : decide (j ≤ y) = true := decide_eq_true hjx
                          have hj0 : (0 : Int) ≤ (j : Int) := by omega
                          have hj256 : (j : Int) < 256 := by omega
                          have kx := (q2.cell j).trans (bolA_get _ (by omega : j < 256))
                          have fx := q2.froz j
                          have QQ := Lib.hid (And.intro q1 (And.intro q2 q3))
                          have hst2 := Lib.hid (hF1.out j hj1 (by omega))
                          clear q1 q2 q3
                          go_wp2
                          go_roundw
                          case rel =>
                            obtain ⟨q1, q2, q3⟩ := QQ.out
                            refine ⟨j + 1, by omega, by omega, by go_num, q1.far (by simp) _, ?_, ?_⟩
                            · have := q2.set j (.bool true)
                              rw [hst2.out] at this
                              exact this
                            · repeat (first | (with_reducible exact Below.refl _ _) | (with_reducible refine Below.drew ?_) | (refine Below.setCell ?_ (by first | exact Nat.le_refl _ | (simp; done) | (simp; omega) | omega) _) | (refine Below.alloc ?_ (by first | exact Nat.le_refl _ | (simp; done) | (simp; omega) | omega) _) | (refine Below.trans ?_ (Below.mono (by assumption) (by first | exact Nat.le_refl _ | (simp; done) | (simp; omega) | omega))))
                          case measure => simp [intOf]; omega
                        · have tj : decide ((j : Int) ≤ (y : Int)) = false := decide_eq_false (by omega)
                          have tj' : decide (j ≤ y) = false := decide_eq_false hjx
                          have hq2 := hF2.out j (by omega)
                          rw [hq2] at q2
                          go_wp2
                          go_roundw
                          case rel => exact ⟨m', false, P, rfl, rfl, by omega, HR2.out, q1, q2, q3⟩
                          case measure => have h9 := hm9.out; simp [intOf]; omega
                · skip
                  have hlt2 : m + 1 < l.length := by have := begL_lt hib; omega
                  have h3 : goesL l m = true := by
                    unfold goesL; rw [hd, decide_eq_true hlt2]
                    have h4 : l.getD (m + 1) 0 ≠ 93 := by
                      intro h5; unfold isL at h93; rw [decide_eq_true hlt2, h5] at h93; simp at h93
                    show (true && (true && (l.getD (m + 1) 0 != 93))) = true
                    rw [Bool.true_and, Bool.true_and, bne_iff_ne]; exact h4
                  have hm : memM l n = .bad n 4 := by
                    unfold memM; rw [hbg0, hL]; simp only [Bool.false_eq_true, if_false]; rw [h3, hib]; rfl
                  obtain rfl : R = .bad n 4 := by
                    rcases HC.out with ⟨a, c, h1, h2⟩ | ⟨q, m', h1, _⟩
                    · rw [hm] at h1; rw [h2]; exact h1.symm
                    · rw [hm] at h1; cases h1
                  have id2 := IDB.out m (by omega)
                  rw [show begL l m 45 93 = false by unfold begL; rw [h93, Bool.and_false]] at id2
                  have ID2 := Lib.hid id2
                  have ib2 := IBB.out (m + 1) (by omega)
                  rw [hib] at ib2
                  have IB2 := Lib.hid ib2
                  have hst := got_store r gZ_size (badG 4 (n : Int)) (badG_len _ _) (badG_one _ _)
                  unfold badG at hst
                  have hrw := Lib.hid (got_row r (badG 4 (n : Int)))
                  have h8 : Hid (Below w.heap.size w (wr.setRow w.heap.size (badG 4 (n : Int)).toArray)) := below_setRow hB (Nat.le_refl _) _
                  have hGL : Hid ((badG 4 (n : Int)).length = 259) := badG_len _ _
                  unfold badG at hrw h8 hGL
                  clear hm hL hbg0 HC IBB OB OK1 id1 id2 ib2 hd IDS IDB h93 hib h3
                  unfold bv at ok
                  generalize c.toNat = x at *
                  generalize m + 1 = mm at *
                  go_wp2_with fail
                  refine (HIB.out _).mono ?_; rintro e w' ⟨rfl, rfl⟩; (try dsimp only)
                  go_wp2_with fail
                  refine (ok.out _).mono ?_; rintro e w' ⟨rfl, rfl⟩; (try dsimp only)
                  go_wp2_with fail
                  refine (ID1.out _).mono ?_; rintro e w' ⟨rfl, rfl⟩; (try dsimp only)
                  go_wp2_with fail
                  refine (ID2.out _).mono ?_; rintro e w' ⟨rfl, rfl⟩; (try dsimp only)
                  go_wp2_with fail
                  refine (IB2.out _).mono ?_; rintro e w' ⟨rfl, rfl⟩; (try dsimp only)
                  go_wp2
                  exact bodyPost_ret (got_ret hrw.out hGL.out _ rfl) rfl (show EndG false k (.bad n 4) w _ _ from ⟨rfl, h8.out⟩)
              · skip
                have hm : memM l n = .ok (rngP c.toNat c.toNat) m := by
                  have h3 : goesL l m = false := by
                    have h4 := (isL_lt h93).2
                    unfold goesL; rw [h4]; simp
                  unfold memM; rw [hbg0, hL]; simp only [Bool.false_eq_true, if_false]; rw [h3]; rfl
                have hrun2 : RunB l m false (fun x => p x || rngP c.toNat c.toNat x) R := by
                  rcases HC.out with ⟨a, e, h1, _⟩ | ⟨q, m', h1, h2⟩
                  · rw [hm] at h1; cases h1
                  · rw [hm] at h1; injection h1 with e1 e2; subst e1 e2; exact h2
                have HR2 := Lib.hid hrun2
                have hm9 : Hid (n < m ∧ m ≤ l.length) := (by omega : n < m ∧ m ≤ l.length)
                have hx := c.toNat_lt
                have hF0 : Hid (bolA (fillP p c.toNat c.toNat) = bolA p) := fillP_0 _ _
                have hF1 : Hid (∀ j, c.toNat ≤ j → j < 256 → (bolA (fillP p c.toNat j)).setIfInBounds j (.bool true) = bolA (fillP p c.toNat (j + 1))) := fun j h1 h2 => fillP_set p h1 h2
                have hF2 : Hid (∀ j, j = c.toNat + 1 → bolA (fillP p c.toNat j) = bolA (fun x => p x || rngP c.toNat c.toNat x)) := fun j h => fillP_end p (Or.inl h)
                have id2 := IDB.out m (by omega)
                rw [show begL l m 45 93 = true by unfold begL; rw [hd, h93]; rfl] at id2
                have ID2 := Lib.hid id2
                clear id2 h93
                clear hm hL hbg0 HC IBB OB OK1 id1 hd hrun2 IDS
                unfold bv at ok
                generalize c.toNat = x at *
                generalize (fun y => p y || rngP x x y) = P at *
                have wX : IntKind.i64.wrap (x : Int) = (x : Int) := by rw [IntKind.wrap_i64]; omega
                go_wp2_with fail
                refine (HIB.out _).mono ?_; rintro e w' ⟨rfl, rfl⟩; (try dsimp only)
                go_wp2_with fail
                refine (ok.out _).mono ?_; rintro e w' ⟨rfl, rfl⟩; (try dsimp only)
                go_wp2_with fail
                refine (ID1.out _).mono ?_; rintro e w' ⟨rfl, rfl⟩; (try dsimp only)
                go_wp2_with fail
                refine (ID2.out _).mono ?_; rintro e w' ⟨rfl, rfl⟩; (try dsimp only)
                go_wp2
                obtain ⟨wq, hwq⟩ : ∃ q, q = wr := ⟨_, rfl⟩
                subst hwq
                go_loopw [22] (fun t22 wv => ∃ j : Nat, x ≤ j ∧ j ≤ x + 1 ∧ t22 = .int .i64 (j : Int) ∧ Row wv w.heap.size 34 gZ ∧ Row wv (w.heap.size + 1) 32 (bolA (fillP p x j)) ∧ Below w.heap.size w wv) (fun t22 _ => x + 1 - (intOf t22).toNat)
                case atStart => exact ⟨x, Nat.le_refl _, by omega, rfl, r, by rw [hF0.out]; exact rs, hB⟩
                case round =>
                  obtain ⟨j, hj1, hj2, rfl, q1, q2, q3⟩ := hrel
                  by_cases hjx : j ≤ x
                  · have tj : decide ((j : Int) ≤ (x : Int)) = true := decide_eq_true (by omega)
                    have tj' : decide (j ≤ x) = true := decide_eq_true hjx
                    have hj0 : (0 : Int) ≤ (j : Int) := by omega
                    have hj256 : (j : Int) < 256 := by omega
                    have kx := (q2.cell j).trans (bolA_get _ (by omega : j < 256))
                    have fx := q2.froz j
                    have QQ := Lib.hid (And.intro q1 (And.intro q2 q3))
                    have hst2 := Lib.hid (hF1.out j hj1 (by omega))
                    clear q1 q2 q3
                    go_wp2
                    go_roundw
                    case rel =>
                      obtain ⟨q1, q2, q3⟩ := QQ.out
                      refine ⟨j + 1, by omega, by omega, by go_num, q1.far (by simp) _, ?_, ?_⟩
                      · have := q2.set j (.bool true)
                        rw [hst2.out] at this
                        exact this
                      · repeat (first | (with_reducible exact Below.refl _ _) | (with_reducible refine Below.drew ?_) | (refine Below.setCell ?_ (by first | exact Nat.le_refl _ | (simp; done) | (simp; omega) | omega) _) | (refine Below.alloc ?_ (by first | exact Nat.le_refl _ | (simp; done) | (simp; omega) | omega) _) | (refine Below.trans ?_ (Below.mono (by assumption) (by first | exact Nat.le_refl _ | (simp; done) | (simp; omega) | omega))))
                    case measure => simp [intOf]; omega
                  · have tj : decide ((j : Int) ≤ (x : Int)) = false := decide_eq_false (by omega)
                    have tj' : decide (j ≤ x) = false := decide_eq_false hjx
                    have hq2 := hF2.out j (by omega)
                    rw [hq2] at q2
                    go_wp2
                    go_roundw
                    case rel => exact ⟨m, false, P, rfl, rfl, by omega, HR2.out, q1, q2, q3⟩
                    case measure => have h9 := hm9.out; simp [intOf]; omega
        · rw [hbg0] at HIB
          have hbe := begL_lt hbg0
          have hmc : memM l n = clasM l n := by unfold memM; rw [if_pos hbg0]
          have HMC := Lib.hid hmc
          have wE : IntKind.i64.wrap ((n : Int) + 2) = ((n + 2 : Nat) : Int) := by rw [IntKind.wrap_i64]; omega
          obtain ⟨a2, ha2⟩ : ∃ y, y = n + 2 := ⟨_, rfl⟩
          have HA2 := Lib.hid ha2
          rw [← ha2] at wE hbe
          clear hmc hbg0 ha2
          go_wp2_with fail
          refine (HIB.out _).mono ?_; rintro e w' ⟨rfl, rfl⟩; (try dsimp only)
          go_wp2
          obtain ⟨wq, hwq⟩ : ∃ q, q = wr := ⟨_, rfl⟩
          subst hwq
          go_loopw [9] (fun t9 wv => ∃ e : Nat, a2 ≤ e ∧ e ≤ l.length ∧ t9 = .int .i64 (e : Int) ∧ Hid (NoEnd l a2 e) ∧ Row wv w.heap.size 34 gZ ∧ Row wv (w.heap.size + 1) 32 (bolA p) ∧ Below w.heap.size w wv) (fun t9 _ => l.length - (intOf t9).toNat)
          case atStart => exact ⟨a2, Nat.le_refl _, hbe, rfl, fun j h1 h2 => by omega, r, rs, hB⟩
          case round =>
            obtain ⟨e, he1, he2, rfl, hne, q1, q2, q3⟩ := hrel
            by_cases hel : e < l.length
            · have te : decide ((e : Int) < (l.length : Int)) = true := decide_eq_true (by omega)
              have te' : decide (e < l.length) = true := decide_eq_true hel
              have tg : decide ((l.length : Int) ≤ (e : Int)) = false := decide_eq_false (by omega)
              have tg' : decide (l.length ≤ e) = false := decide_eq_false (by omega)
              have ic := ICL.out e (by omega)
              have wF : IntKind.i64.wrap ((e : Int) + 1) = (e : Int) + 1 := by rw [IntKind.wrap_i64]; omega
              cases hb2 : begL l e 58 93
              · rw [hb2] at ic
                have IC := Lib.hid ic
                have QQ := Lib.hid (And.intro q1 (And.intro q2 q3))
                have HB2 := Lib.hid hb2
                clear q1 q2 q3 ic hb2
                go_wp2_with fail
                refine (IC.out _).mono ?_; rintro e9 w' ⟨rfl, rfl⟩; (try dsimp only)
                go_wp2
                go_roundw
                case rel =>
                  obtain ⟨q1, q2, q3⟩ := QQ.out
                  refine ⟨e + 1, by omega, by omega, by go_num, ?_, q1, q2, q3⟩
                  intro j h1 h2
                  by_cases h3 : j = e
                  · rw [h3]; exact HB2.out
                  · exact hne.out j h1 (by omega)
                case measure => simp [intOf]; omega
              · rw [hb2] at ic
                have IC := Lib.hid ic
                have hix : Lib.index (l.drop (n + 2)) [58, 93] = ((e - a2 : Nat) : Int) := by
                  have ha2 := HA2.out
                  rw [← ha2]; exact scan_hit he1 he2 hne.out hb2
                have hb3 := begL_lt hb2
                have hsl2 := SLL.out a2 e he1 he2
                have wK : IntKind.i64.wrap ((e : Int) + 2) = ((e + 2 : Nat) : Int) := by rw [IntKind.wrap_i64]; omega
                have hcm : clasM l n = match clsL ((l.drop a2).take (e - a2)) with
                    | none => .bad n 8
                    | some q => .ok q (e + 2) := by
                  unfold clasM
                  have ha2 := HA2.out
                  rw [hix, if_neg (by omega), ← ha2, Int.toNat_natCast, show a2 + (e - a2) + 2 = e + 2 by omega]
                  rfl
                have IN := fun c hc W => in_u ((l.drop a2).take (e - a2)) c hc W
                cases hcl : clsL ((l.drop a2).take (e - a2)) with
                | none =>
                  rw [hcl] at hcm IN
                  have hm : memM l n = .bad n 8 := HMC.out.trans hcm
                  obtain rfl : R = .bad n 8 := by
                    rcases HC.out with ⟨a, c, h1, h2⟩ | ⟨q, m', h1, _⟩
                    · rw [hm] at h1; rw [h2]; exact h1.symm
                    · rw [hm] at h1; cases h1
                  have IN0 := Lib.hid (IN 0 (by omega))
                  have hst := got_store q1 gZ_size (badG 8 (n : Int)) (badG_len _ _) (badG_one _ _)
                  unfold badG at hst
                  have hrw := Lib.hid (got_row q1 (badG 8 (n : Int)))
                  have h8 : Hid (Below w.heap.size w (wr.setRow w.heap.size (badG 8 (n : Int)).toArray)) := below_setRow q3 (Nat.le_refl _) _
                  have hGL : Hid ((badG 8 (n : Int)).length = 259) := badG_len _ _
                  unfold badG at hrw h8 hGL
                  clear hm HC IBB OB OK1 IDS IDB hne HMC r rs hB q1 q2 q3 IN hcm hcl hix ic hb2
                  generalize S8 ((l.drop a2).take (e - a2)) = nm at *
                  go_wp2_with fail
                  refine (IC.out _).mono ?_; rintro e9 w' ⟨rfl, rfl⟩; (try dsimp only)
                  go_wp2_with fail
                  refine (IN0.out _).mono ?_; rintro e9 w' ⟨rfl, rfl⟩; (try dsimp only)
                  go_wp2
                  exact bodyPost_ret (got_ret hrw.out hGL.out _ rfl) rfl (show EndG false k (.bad n 8) w _ _ from ⟨rfl, h8.out⟩)
                | some q =>
                  rw [hcl] at hcm IN
                  have hm : memM l n = .ok q (e + 2) := HMC.out.trans hcm
                  have hrun2 : RunB l (e + 2) false (fun x => p x || q x) R := by
                    rcases HC.out with ⟨a, e, h1, _⟩ | ⟨q, m', h1, h2⟩
                    · rw [hm] at h1; cases h1
                    · rw [hm] at h1; injection h1 with e1 e2; subst e1 e2; exact h2
                  have HR2 := Lib.hid hrun2
                  have IN1 := Lib.hid IN
                  have hm9 : Hid (n < e + 2) := by have h9 := HA2.out; show n < e + 2; omega
                  have IN0 := Lib.hid (IN 0 (by omega))
                  clear hm HC IBB OB OK1 IDS IDB hne HMC r rs hB IN hcm hcl hix ic hb2
                  generalize S8 ((l.drop a2).take (e - a2)) = nm at *
                  go_wp2_with fail
                  refine (IC.out _).mono ?_; rintro e9 w' ⟨rfl, rfl⟩; (try dsimp only)
                  go_wp2_with fail
                  refine (IN0.out _).mono ?_; rintro e9 w' ⟨rfl, rfl⟩; (try dsimp only)
                  go_wp2
                  obtain ⟨wq2, hwq2⟩ : ∃ q, q = wr := ⟨_, rfl⟩
                  subst hwq2
                  go_loopw [13] (fun tk wv => ∃ j : Nat, j ≤ 256 ∧ tk = .int .i64 (j : Int) ∧ Row wv w.heap.size 34 gZ ∧ Row wv (w.heap.size + 1) 32 (bolA (upP p (fun x => p x || q x) j)) ∧ Below w.heap.size w wv) (fun tk _ => 256 - (intOf tk).toNat)
                  case atStart => exact ⟨0, by omega, rfl, q1, by rw [upP_0]; exact q2, q3⟩
                  case round =>
                    obtain ⟨j, hj, rfl, r1, r2, r3⟩ := hrel
                    by_cases hjx : j < 256
                    · have tj : decide ((j : Int) < 256) = true := decide_eq_true (by omega)
                      have hj0 : (0 : Int) ≤ (j : Int) := by omega
                      have hj256 : (j : Int) < 256 := by omega
                      have kx := (r2.cell j).trans ((bolA_get _ hjx).trans (by rw [upP_at]))
                      have fx := r2.froz j
                      have QQ := Lib.hid (And.intro r1 (And.intro r2 r3))
                      have hst2 : Hid ((bolA (upP p (fun x => p x || q x) j)).setIfInBounds j (.bool (p j || q j)) = bolA (upP p (fun x => p x || q x) (j + 1))) := upP_set p (fun x => p x || q x) hjx
                      have inj := Lib.hid (IN1.out j hjx)
                      clear r1 r2 r3 IN0 IN1
                      simp only [Option.getD_some, Option.isSome_some] at inj
                      cases hp : p j
                      · rw [hp] at kx hst2
                        cases hq : q j
                        · rw [hq] at inj hst2
                          go_wp2_with fail
                          refine (inj.out _).mono ?_; rintro e9 w' ⟨rfl, rfl⟩; (try dsimp only)
                          go_wp2
                          go_roundw
                          case rel =>
                            obtain ⟨q1, q2, q3⟩ := QQ.out
                            refine ⟨j + 1, by omega, by go_num, q1.far (by simp) _, ?_, ?_⟩
                            · have := q2.set j (.bool false)
                              first | (rw [hst2.out] at this; exact this) | (have h9 := hst2.out; simp only [Bool.or_false, Bool.or_true, Bool.false_or, Bool.true_or] at h9; rw [h9] at this; exact this)
                            · repeat (first | (with_reducible exact Below.refl _ _) | (with_reducible refine Below.drew ?_) | (refine Below.setCell ?_ (by first | exact Nat.le_refl _ | (simp; done) | (simp; omega) | omega) _) | (refine Below.alloc ?_ (by first | exact Nat.le_refl _ | (simp; done) | (simp; omega) | omega) _) | (refine Below.trans ?_ (Below.mono (by assumption) (by first | exact Nat.le_refl _ | (simp; done) | (simp; omega) | omega))))
                          case measure => simp [intOf]; omega
                        · rw [hq] at inj hst2
                          go_wp2_with fail
                          refine (inj.out _).mono ?_; rintro e9 w' ⟨rfl, rfl⟩; (try dsimp only)
                          go_wp2
                          go_roundw
                          case rel =>
                            obtain ⟨q1, q2, q3⟩ := QQ.out
                            refine ⟨j + 1, by omega, by go_num, q1.far (by simp) _, ?_, ?_⟩
                            · have := q2.set j (.bool true)
                              first | (rw [hst2.out] at this; exact this) | (have h9 := hst2.out; simp only [Bool.or_false, Bool.or_true, Bool.false_or, Bool.true_or] at h9; rw [h9] at this; exact this)
                            · repeat (first | (with_reducible exact Below.refl _ _) | (with_reducible refine Below.drew ?_) | (refine Below.setCell ?_ (by first | exact Nat.le_refl _ | (simp; done) | (simp; omega) | omega) _) | (refine Below.alloc ?_ (by first | exact Nat.le_refl _ | (simp; done) | (simp; omega) | omega) _) | (refine Below.trans ?_ (Below.mono (by assumption) (by first | exact Nat.le_refl _ | (simp; done) | (simp; omega) | omega))))
                          case measure => simp [intOf]; omega
                      · rw [hp] at kx hst2
                        cases hq : q j
                        · rw [hq] at inj hst2
                          go_wp2_with fail
                          refine (inj.out _).mono ?_; rintro e9 w' ⟨rfl, rfl⟩; (try dsimp only)
                          go_wp2
                          go_roundw
                          case rel =>
                            obtain ⟨q1, q2, q3⟩ := QQ.out
                            refine ⟨j + 1, by omega, by go_num, q1.far (by simp) _, ?_, ?_⟩
                            · have := q2.set j (.bool true)
                              first | (rw [hst2.out] at this; exact this) | (have h9 := hst2.out; simp only [Bool.or_false, Bool.or_true, Bool.false_or, Bool.true_or] at h9; rw [h9] at this; exact this)
                            · repeat (first | (with_reducible exact Below.refl _ _) | (with_reducible refine Below.drew ?_) | (refine Below.setCell ?_ (by first | exact Nat.le_refl _ | (simp; done) | (simp; omega) | omega) _) | (refine Below.alloc ?_ (by first | exact Nat.le_refl _ | (simp; done) | (simp; omega) | omega) _) | (refine Below.trans ?_ (Below.mono (by assumption) (by first | exact Nat.le_refl _ | (simp; done) | (simp; omega) | omega))))
                          case measure => simp [intOf]; omega
                        · rw [hq] at inj hst2
                          go_wp2_with fail
                          refine (inj.out _).mono ?_; rintro e9 w' ⟨rfl, rfl⟩; (try dsimp only)
                          go_wp2
                          go_roundw
                          case rel =>
                            obtain ⟨q1, q2, q3⟩ := QQ.out
                            refine ⟨j + 1, by omega, by go_num, q1.far (by simp) _, ?_, ?_⟩
                            · have := q2.set j (.bool true)
                              first | (rw [hst2.out] at this; exact this) | (have h9 := hst2.out; simp only [Bool.or_false, Bool.or_true, Bool.false_or, Bool.true_or] at h9; rw [h9] at this; exact this)
                            · repeat (first | (with_reducible exact Below.refl _ _) | (with_reducible refine Below.drew ?_) | (refine Below.setCell ?_ (by first | exact Nat.le_refl _ | (simp; done) | (simp; omega) | omega) _) | (refine Below.alloc ?_ (by first | exact Nat.le_refl _ | (simp; done) | (simp; omega) | omega) _) | (refine Below.trans ?_ (Below.mono (by assumption) (by first | exact Nat.le_refl _ | (simp; done) | (simp; omega) | omega))))
                          case measure => simp [intOf]; omega
                    · have tj : decide ((j : Int) < 256) = false := decide_eq_false (by omega)
                      obtain rfl : j = 256 := by omega
                      rw [upP_all] at r2
                      go_wp2
                      go_roundw
                      case rel => exact ⟨e + 2, false, _, rfl, rfl, by omega, HR2.out, r1, r2, r3⟩
                      case measure => have h9 := hm9.out; simp [intOf]; omega
            · have te : decide ((e : Int) < (l.length : Int)) = false := decide_eq_false (by omega)
              have te' : decide (e < l.length) = false := decide_eq_false hel
              have tg : decide ((l.length : Int) ≤ (e : Int)) = true := decide_eq_true (by omega)
              have tg' : decide (l.length ≤ e) = true := decide_eq_true (by omega)
              have hm : memM l n = .bad l.length 7 := by
                rw [HMC.out]
                unfold clasM
                have ha2 := HA2.out
                rw [← ha2, scan_end (by omega) (by omega) hne.out, if_pos (by omega)]
              obtain rfl : R = .bad l.length 7 := by
                rcases HC.out with ⟨a, c, h1, h2⟩ | ⟨q, m', h1, _⟩
                · rw [hm] at h1; rw [h2]; exact h1.symm
                · rw [hm] at h1; cases h1
              have hst := got_store q1 gZ_size (badG 7 (l.length : Int)) (badG_len _ _) (badG_one _ _)
              unfold badG at hst
              have hrw := Lib.hid (got_row q1 (badG 7 (l.length : Int)))
              have h8 : Hid (Below w.heap.size w (wr.setRow w.heap.size (badG 7 (l.length : Int)).toArray)) := below_setRow q3 (Nat.le_refl _) _
              have hGL : Hid ((badG 7 (l.length : Int)).length = 259) := badG_len _ _
              unfold badG at hrw h8 hGL
              clear hm HC IBB OB OK1 IDS IDB hne HMC r rs hB q1 q2 q3
              go_wp2
              exact bodyPost_ret (got_ret hrw.out hGL.out _ rfl) rfl (show EndG false k (.bad l.length 7) w _ _ from ⟨rfl, h8.out⟩)
      · skip
        rw [hs] at hi
        have hi := Lib.hid hi
        clear hs
        cases hbg0 : begL l n 91 58
        · rw [hbg0] at HIB
          cases hL : letL l n with
          | none =>
            have hm : memM l n = .bad l.length 7 := by unfold memM; rw [hbg0, hL]; rfl
            obtain rfl : R = .bad l.length 7 := by
              rcases HC.out with ⟨a, c, h1, h2⟩ | ⟨q, m', h1, _⟩
              · rw [hm] at h1; rw [h2]; exact h1.symm
              · rw [hm] at h1; cases h1
            have ob := Lib.hid (OB.out n (by omega) hL)
            have hst := got_store r gZ_size (badG 7 (l.length : Int)) (badG_len _ _) (badG_one _ _)
            unfold badG at hst
            have hrw := Lib.hid (got_row r (badG 7 (l.length : Int)))
            have h8 : Hid (Below w.heap.size w (wr.setRow w.heap.size (badG 7 (l.length : Int)).toArray)) := below_setRow hB (Nat.le_refl _) _
            have hGL : Hid ((badG 7 (l.length : Int)).length = 259) := badG_len _ _
            unfold badG at hrw h8 hGL
            clear hm hL hbg0 HC IBB OB OK1
            go_wp2_with fail
            refine (hi.out _).mono ?_; rintro e w' ⟨rfl, rfl⟩; (try dsimp only)
            go_wp2_with fail
            refine (HIB.out _).mono ?_; rintro e w' ⟨rfl, rfl⟩; (try dsimp only)
            go_wp2_with fail
            refine (ob.out _).mono ?_; rintro e w' ⟨rfl, rfl⟩; (try dsimp only)
            go_wp2
            exact bodyPost_ret (got_ret hrw.out hGL.out _ rfl) rfl (show EndG false k (.bad l.length 7) w _ _ from ⟨rfl, h8.out⟩)
          | some z =>
            obtain ⟨c, m⟩ := z
            have hle := letL_le hL
            cases hd : isL l m 45
            · have ok := Lib.hid (OK1.out n c m hL)
              have id1 := IDS.out m (by omega)
              rw [hd] at id1
              have ID1 := Lib.hid id1
              have hz : (((m : Int) - (n : Int)) == 0) = false := by rw [beq_eq_false_iff_ne]; omega
              have wS : IntKind.i64.wrap ((n : Int) + ((m : Int) - (n : Int))) = (m : Int) := by rw [IntKind.wrap_i64]; omega
              have wM : IntKind.i64.wrap ((m : Int) + 1) = ((m + 1 : Nat) : Int) := by rw [IntKind.wrap_i64]; omega
              have hm : memM l n = .ok (rngP c.toNat c.toNat) m := by
                have h3 : goesL l m = false := by unfold goesL; rw [hd]; rfl
                unfold memM; rw [hbg0, hL]; simp only [Bool.false_eq_true, if_false]; rw [h3]; rfl
              have hrun2 : RunB l m false (fun x => p x || rngP c.toNat c.toNat x) R := by
                rcases HC.out with ⟨a, e, h1, _⟩ | ⟨q, m', h1, h2⟩
                · rw [hm] at h1; cases h1
                · rw [hm] at h1; injection h1 with e1 e2; subst e1 e2; exact h2
              have HR2 := Lib.hid hrun2
              have hm9 : Hid (n < m ∧ m ≤ l.length) := (by omega : n < m ∧ m ≤ l.length)
              have hx := c.toNat_lt
              have hF0 : Hid (bolA (fillP p c.toNat c.toNat) = bolA p) := fillP_0 _ _
              have hF1 : Hid (∀ j, c.toNat ≤ j → j < 256 → (bolA (fillP p c.toNat j)).setIfInBounds j (.bool true) = bolA (fillP p c.toNat (j + 1))) := fun j h1 h2 => fillP_set p h1 h2
              have hF2 : Hid (∀ j, j = c.toNat + 1 → bolA (fillP p c.toNat j) = bolA (fun x => p x || rngP c.toNat c.toNat x)) := fun j h => fillP_end p (Or.inl h)
              clear hm hL hbg0 HC IBB OB OK1 id1 hd hrun2 IDS
              unfold bv at ok
              generalize c.toNat = x at *
              generalize (fun y => p y || rngP x x y) = P at *
              have wX : IntKind.i64.wrap (x : Int) = (x : Int) := by rw [IntKind.wrap_i64]; omega
              go_wp2_with fail
              refine (hi.out _).mono ?_; rintro e w' ⟨rfl, rfl⟩; (try dsimp only)
              go_wp2_with fail
              refine (HIB.out _).mono ?_; rintro e w' ⟨rfl, rfl⟩; (try dsimp only)
              go_wp2_with fail
              refine (ok.out _).mono ?_; rintro e w' ⟨rfl, rfl⟩; (try dsimp only)
              go_wp2_with fail
              refine (ID1.out _).mono ?_; rintro e w' ⟨rfl, rfl⟩; (try dsimp only)
              go_wp2
              obtain ⟨wq, hwq⟩ : ∃ q, q = wr := ⟨_, rfl⟩
              subst hwq
              go_loopw [22] (fun t22 wv => ∃ j : Nat, x ≤ j ∧ j ≤ x + 1 ∧ t22 = .int .i64 (j : Int) ∧ Row wv w.heap.size 34 gZ ∧ Row wv (w.heap.size + 1) 32 (bolA (fillP p x j)) ∧ Below w.heap.size w wv) (fun t22 _ => x + 1 - (intOf t22).toNat)
              case atStart => exact ⟨x, Nat.le_refl _, by omega, rfl, r, by rw [hF0.out]; exact rs, hB⟩
              case round =>
                obtain ⟨j, hj1, hj2, rfl, q1, q2, q3⟩ := hrel
                by_cases hjx : j ≤ x
                · have tj : decide ((j : Int) ≤ (x : Int)) = true := decide_eq_true (by omega)
                  have tj' : decide (j ≤ x) = true := decide_eq_true hjx
                  have hj0 : (0 : Int) ≤ (j : Int) := by omega
                  have hj256 : (j : Int) < 256 := by omega
                  have kx := (q2.cell j).trans (bolA_get _ (by omega : j < 256))
                  have fx := q2.froz j
                  have QQ := Lib.hid (And.intro q1 (And.intro q2 q3))
                  have hst2 := Lib.hid (hF1.out j hj1 (by omega))
                  clear q1 q2 q3
                  go_wp2
                  go_roundw
                  case rel =>
                    obtain ⟨q1, q2, q3⟩ := QQ.out
                    refine ⟨j + 1, by omega, by omega, by go_num, q1.far (by simp) _, ?_, ?_⟩
                    · have := q2.set j (.bool true)
                      rw [hst2.out] at this
                      exact this
                    · repeat (first | (with_reducible exact Below.refl _ _) | (with_reducible refine Below.drew ?_) | (refine Below.setCell ?_ (by first | exact Nat.le_refl _ | (simp; done) | (simp; omega) | omega) _) | (refine Below.alloc ?_ (by first | exact Nat.le_refl _ | (simp; done) | (simp; omega) | omega) _) | (refine Below.trans ?_ (Below.mono (by assumption) (by first | exact Nat.le_refl _ | (simp; done) | (simp; omega) | omega))))
                  case measure => simp [intOf]; omega
                · have tj : decide ((j : Int) ≤ (x : Int)) = false := decide_eq_false (by omega)
                  have tj' : decide (j ≤ x) = false := decide_eq_false hjx
                  have hq2 := hF2.out j (by omega)
                  rw [hq2] at q2
                  go_wp2
                  go_roundw
                  case rel => exact ⟨m, false, P, rfl, rfl, by omega, HR2.out, q1, q2, q3⟩
                  case measure => have h9 := hm9.out; simp [intOf]; omega
            · have ok := Lib.hid (OK1.out n c m hL)
              have id1 := IDS.out m (by omega)
              rw [hd] at id1
              have ID1 := Lib.hid id1
              have hz : (((m : Int) - (n : Int)) == 0) = false := by rw [beq_eq_false_iff_ne]; omega
              have wS : IntKind.i64.wrap ((n : Int) + ((m : Int) - (n : Int))) = (m : Int) := by rw [IntKind.wrap_i64]; omega
              have wM : IntKind.i64.wrap ((m : Int) + 1) = ((m + 1 : Nat) : Int) := by rw [IntKind.wrap_i64]; omega
              cases h93 : isL l (m + 1) 93
              · cases hib : begL l (m + 1) 91 58
                · cases hln : letL l (m + 1) with
                  | none =>
                    obtain rfl : R = .bad l.length 7 := by
                      by_cases he : m + 1 = l.length
                      · have hm : memM l n = .ok (rngP c.toNat c.toNat) m := by
                          have h3 : goesL l m = false := by unfold goesL; rw [decide_eq_false (by omega : ¬ m + 1 < l.length), Bool.false_and, Bool.and_false]
                          unfold memM; rw [hbg0, hL]; simp only [Bool.false_eq_true, if_false]; rw [h3]; rfl
                        rcases HC.out with ⟨a, e, h1, _⟩ | ⟨q, m', h1, h2⟩
                        · rw [hm] at h1; cases h1
                        · rw [hm] at h1; injection h1 with e1 e2; subst e1 e2; exact dash_end he hd h2
                      · have hlt2 : m + 1 < l.length := by have := (isL_lt hd).1; omega
                        have h3 : goesL l m = true := by
                          unfold goesL; rw [hd, decide_eq_true hlt2]
                          have h4 : l.getD (m + 1) 0 ≠ 93 := by
                            intro h5; unfold isL at h93; rw [decide_eq_true hlt2, h5] at h93; simp at h93
                          show (true && (true && (l.getD (m + 1) 0 != 93))) = true
                          rw [Bool.true_and, Bool.true_and, bne_iff_ne]; exact h4
                        have hm : memM l n = .bad l.length 7 := by
                          unfold memM; rw [hbg0, hL]; simp only [Bool.false_eq_true, if_false]; rw [h3, hib, hln]; rfl
                        rcases HC.out with ⟨a, c, h1, h2⟩ | ⟨q, m', h1, _⟩
                        · rw [hm] at h1; rw [h2]; exact h1.symm
                        · rw [hm] at h1; cases h1
                    have id2 := IDB.out m (by omega)
                    rw [show begL l m 45 93 = false by unfold begL; rw [h93, Bool.and_false]] at id2
                    have ID2 := Lib.hid id2
                    have ib2 := IBB.out (m + 1) (by omega)
                    rw [hib] at ib2
                    have IB2 := Lib.hid ib2
                    have ob := Lib.hid (OB.out (m + 1) (by omega) hln)
                    have hst := got_store r gZ_size (badG 7 (l.length : Int)) (badG_len _ _) (badG_one _ _)
                    unfold badG at hst
                    have hrw := Lib.hid (got_row r (badG 7 (l.length : Int)))
                    have h8 : Hid (Below w.heap.size w (wr.setRow w.heap.size (badG 7 (l.length : Int)).toArray)) := below_setRow hB (Nat.le_refl _) _
                    have hGL : Hid ((badG 7 (l.length : Int)).length = 259) := badG_len _ _
                    unfold badG at hrw h8 hGL
                    clear hL hbg0 HC IBB OB OK1 id1 id2 ib2 hd IDS IDB h93 hib hln
                    unfold bv at ok
                    generalize c.toNat = x at *
                    generalize m + 1 = mm at *
                    go_wp2_with fail
                    refine (hi.out _).mono ?_; rintro e w' ⟨rfl, rfl⟩; (try dsimp only)
                    go_wp2_with fail
                    refine (HIB.out _).mono ?_; rintro e w' ⟨rfl, rfl⟩; (try dsimp only)
                    go_wp2_with fail
                    refine (ok.out _).mono ?_; rintro e w' ⟨rfl, rfl⟩; (try dsimp only)
                    go_wp2_with fail
                    refine (ID1.out _).mono ?_; rintro e w' ⟨rfl, rfl⟩; (try dsimp only)
                    go_wp2_with fail
                    refine (ID2.out _).mono ?_; rintro e w' ⟨rfl, rfl⟩; (try dsimp only)
                    go_wp2_with fail
                    refine (IB2.out _).mono ?_; rintro e w' ⟨rfl, rfl⟩; (try dsimp only)
                    go_wp2_with fail
                    refine (ob.out _).mono ?_; rintro e w' ⟨rfl, rfl⟩; (try dsimp only)
                    go_wp2
                    exact bodyPost_ret (got_ret hrw.out hGL.out _ rfl) rfl (show EndG false k (.bad l.length 7) w _ _ from ⟨rfl, h8.out⟩)
                  | some z2 =>
                    obtain ⟨t, m'⟩ := z2
                    by_cases htc : t.toNat < c.toNat
                    · skip
                      have hle2 := letL_le hln
                      have hlt2 : m + 1 < l.length := by omega
                      have h3 : goesL l m = true := by
                        unfold goesL; rw [hd, decide_eq_true hlt2]
                        have h4 : l.getD (m + 1) 0 ≠ 93 := by
                          intro h5; unfold isL at h93; rw [decide_eq_true hlt2, h5] at h93; simp at h93
                        show (true && (true && (l.getD (m + 1) 0 != 93))) = true
                        rw [Bool.true_and, Bool.true_and, bne_iff_ne]; exact h4
                      have hm : memM l n = .bad n 4 := by
                        unfold memM; rw [hbg0, hL]; simp only [Bool.false_eq_true, if_false]; rw [h3, hib, hln]; simp [htc]
                      obtain rfl : R = .bad n 4 := by
                        rcases HC.out with ⟨a, c, h1, h2⟩ | ⟨q, m', h1, _⟩
                        · rw [hm] at h1; rw [h2]; exact h1.symm
                        · rw [hm] at h1; cases h1
                      have id2 := IDB.out m (by omega)
                      rw [show begL l m 45 93 = false by unfold begL; rw [h93, Bool.and_false]] at id2
                      have ID2 := Lib.hid id2
                      have ib2 := IBB.out (m + 1) (by omega)
                      rw [hib] at ib2
                      have IB2 := Lib.hid ib2
                      have ok2 := Lib.hid (OK1.out (m + 1) t m' hln)
                      have hz2 : (((m' : Int) - ((m + 1 : Nat) : Int)) == 0) = false := by rw [beq_eq_false_iff_ne]; omega
                      have ty : decide (t.toNat < c.toNat) = true := decide_eq_true htc
                      have tyI : decide ((t.toNat : Int) < (c.toNat : Int)) = true := decide_eq_true (by omega)
                      have hst := got_store r gZ_size (badG 4 (n : Int)) (badG_len _ _) (badG_one _ _)
                      unfold badG at hst
                      have hrw := Lib.hid (got_row r (badG 4 (n : Int)))
                      have h8 : Hid (Below w.heap.size w (wr.setRow w.heap.size (badG 4 (n : Int)).toArray)) := below_setRow hB (Nat.le_refl _) _
                      have hGL : Hid ((badG 4 (n : Int)).length = 259) := badG_len _ _
                      unfold badG at hrw h8 hGL
                      clear hm hL hbg0 HC IBB OB OK1 id1 id2 ib2 hd IDS IDB h93 hib h3 hln htc
                      unfold bv at ok ok2
                      generalize c.toNat = x at *
                      generalize t.toNat = y at *
                      generalize m + 1 = mm at *
                      go_wp2_with fail
                      refine (hi.out _).mono ?_; rintro e w' ⟨rfl, rfl⟩; (try dsimp only)
                      go_wp2_with fail
                      refine (HIB.out _).mono ?_; rintro e w' ⟨rfl, rfl⟩; (try dsimp only)
                      go_wp2_with fail
                      refine (ok.out _).mono ?_; rintro e w' ⟨rfl, rfl⟩; (try dsimp only)
                      go_wp2_with fail
                      refine (ID1.out _).mono ?_; rintro e w' ⟨rfl, rfl⟩; (try dsimp only)
                      go_wp2_with fail
                      refine (ID2.out _).mono ?_; rintro e w' ⟨rfl, rfl⟩; (try dsimp only)
                      go_wp2_with fail
                      refine (IB2.out _).mono ?_; rintro e w' ⟨rfl, rfl⟩; (try dsimp only)
                      go_wp2_with fail
                      refine (ok2.out _).mono ?_; rintro e w' ⟨rfl, rfl⟩; (try dsimp only)
                      go_wp2
                      exact bodyPost_ret (got_ret hrw.out hGL.out _ rfl) rfl (show EndG false k (.bad n 4) w _ _ from ⟨rfl, h8.out⟩)
                    · skip
                      have hle2 := letL_le hln
                      have hlt2 : m + 1 < l.length := by omega
                      have h3 : goesL l m = true := by
                        unfold goesL; rw [hd, decide_eq_true hlt2]
                        have h4 : l.getD (m + 1) 0 ≠ 93 := by
                          intro h5; unfold isL at h93; rw [decide_eq_true hlt2, h5] at h93; simp at h93
                        show (true && (true && (l.getD (m + 1) 0 != 93))) = true
                        rw [Bool.true_and, Bool.true_and, bne_iff_ne]; exact h4
                      have hm : memM l n = .ok (rngP c.toNat t.toNat) m' := by
                        unfold memM; rw [hbg0, hL]; simp only [Bool.false_eq_true, if_false]; rw [h3, hib, hln]; simp [htc]
                      have hrun2 : RunB l m' false (fun x => p x || rngP c.toNat t.toNat x) R := by
                        rcases HC.out with ⟨a, e, h1, _⟩ | ⟨q, m', h1, h2⟩
                        · rw [hm] at h1; cases h1
                        · rw [hm] at h1; injection h1 with e1 e2; subst e1 e2; exact h2
                      have HR2 := Lib.hid hrun2
                      have id2 := IDB.out m (by omega)
                      rw [show begL l m 45 93 = false by unfold begL; rw [h93, Bool.and_false]] at id2
                      have ID2 := Lib.hid id2
                      have ib2 := IBB.out (m + 1) (by omega)
                      rw [hib] at ib2
                      have IB2 := Lib.hid ib2
                      have ok2 := Lib.hid (OK1.out (m + 1) t m' hln)
                      have hz2 : (((m' : Int) - ((m + 1 : Nat) : Int)) == 0) = false := by rw [beq_eq_false_iff_ne]; omega
                      have ty : decide (t.toNat < c.toNat) = false := decide_eq_false htc
                      have tyI : decide ((t.toNat : Int) < (c.toNat : Int)) = false := decide_eq_false (by omega)
                      have wT : IntKind.i64.wrap (((m + 1 : Nat) : Int) + ((m' : Int) - ((m + 1 : Nat) : Int))) = (m' : Int) := by rw [IntKind.wrap_i64]; omega
                      have hcy : c.toNat ≤ t.toNat := by omega
                      have hy := t.toNat_lt
                      have hm9 : Hid (n < m' ∧ m' ≤ l.length) := (by omega : n < m' ∧ m' ≤ l.length)
                      have hx := c.toNat_lt
                      have hF0 : Hid (bolA (fillP p c.toNat c.toNat) = bolA p) := fillP_0 _ _
                      have hF1 : Hid (∀ j, c.toNat ≤ j → j < 256 → (bolA (fillP p c.toNat j)).setIfInBounds j (.bool true) = bolA (fillP p c.toNat (j + 1))) := fun j h1 h2 => fillP_set p h1 h2
                      have hF2 : Hid (∀ j, j = t.toNat + 1 → bolA (fillP p c.toNat j) = bolA (fun x => p x || rngP c.toNat t.toNat x)) := fun j h => fillP_end p (Or.inl h)
                      clear hm hL hbg0 HC IBB OB OK1 id1 id2 ib2 hd IDS IDB h93 hib h3 hln htc hrun2
                      unfold bv at ok ok2
                      generalize c.toNat = x at *
                      generalize t.toNat = y at *
                      generalize m + 1 = mm at *
                      generalize (fun z => p z || rngP x y z) = P at *
                      have wX : IntKind.i64.wrap (x : Int) = (x : Int) := by rw [IntKind.wrap_i64]; omega
                      have wY : IntKind.i64.wrap (y : Int) = (y : Int) := by rw [IntKind.wrap_i64]; omega
                      go_wp2_with fail
                      refine (hi.out _).mono ?_; rintro e w' ⟨rfl, rfl⟩; (try dsimp only)
                      go_wp2_with fail
                      refine (HIB.out _).mono ?_; rintro e w' ⟨rfl, rfl⟩; (try dsimp only)
                      go_wp2_with fail
                      refine (ok.out _).mono ?_; rintro e w' ⟨rfl, rfl⟩; (try dsimp only)
                      go_wp2_with fail
                      refine (ID1.out _).mono ?_; rintro e w' ⟨rfl, rfl⟩; (try dsimp only)
                      go_wp2_with fail
                      refine (ID2.out _).mono ?_; rintro e w' ⟨rfl, rfl⟩; (try dsimp only)
                      go_wp2_with fail
                      refine (IB2.out _).mono ?_; rintro e w' ⟨rfl, rfl⟩; (try dsimp only)
                      go_wp2_with fail
                      refine (ok2.out _).mono ?_; rintro e w' ⟨rfl, rfl⟩; (try dsimp only)
                      go_wp2
                      obtain ⟨wq, hwq⟩ : ∃ q, q = wr := ⟨_, rfl⟩
                      subst hwq
                      go_loopw [22] (fun t22 wv => ∃ j : Nat, x ≤ j ∧ j ≤ y + 1 ∧ t22 = .int .i64 (j : Int) ∧ Row wv w.heap.size 34 gZ ∧ Row wv (w.heap.size + 1) 32 (bolA (fillP p x j)) ∧ Below w.heap.size w wv) (fun t22 _ => y + 1 - (intOf t22).toNat)
                      case atStart => exact ⟨x, Nat.le_refl _, by omega, rfl, r, by rw [hF0.out]; exact rs, hB⟩
                      case round =>
                        obtain ⟨j, hj1, hj2, rfl, q1, q2, q3⟩ := hrel
                        by_cases hjx : j ≤ y
                        · have tj : decide ((j : Int) ≤ (y : Int)) = true := decide_eq_true (by omega)
                          have tj' : decide (j ≤ y) = true := decide_eq_true hjx
                          have hj0 : (0 : Int) ≤ (j : Int) := by omega
                          have hj256 : (j : Int) < 256 := by omega
                          have kx := (q2.cell j).trans (bolA_get _ (by omega : j < 256))
                          have fx := q2.froz j
                          have QQ := Lib.hid (And.intro q1 (And.intro q2 q3))
                          have hst2 := Lib.hid (hF1.out j hj1 (by omega))
                          clear q1 q2 q3
                          go_wp2
                          go_roundw
                          case rel =>
                            obtain ⟨q1, q2, q3⟩ := QQ.out
                            refine ⟨j + 1, by omega, by omega, by go_num, q1.far (by simp) _, ?_, ?_⟩
                            · have := q2.set j (.bool true)
                              rw [hst2.out] at this
                              exact this
                            · repeat (first | (with_reducible exact Below.refl _ _) | (with_reducible refine Below.drew ?_) | (refine Below.setCell ?_ (by first | exact Nat.le_refl _ | (simp; done) | (simp; omega) | omega) _) | (refine Below.alloc ?_ (by first | exact Nat.le_refl _ | (simp; done) | (simp; omega) | omega) _) | (refine Below.trans ?_ (Below.mono (by assumption) (by first | exact Nat.le_refl _ | (simp; done) | (simp; omega) | omega))))
                          case measure => simp [intOf]; omega
                        · have tj : decide ((j : Int) ≤ (y : Int)) = false := decide_eq_false (by omega)
                          have tj' : decide (j ≤ y) = false := decide_eq_false hjx
                          have hq2 := hF2.out j (by omega)
                          rw [hq2] at q2
                          go_wp2
                          go_roundw
                          case rel => exact ⟨m', false, P, rfl, rfl, by omega, HR2.out, q1, q2, q3⟩
                          case measure => have h9 := hm9.out; simp [intOf]; omega
                · skip
                  have hlt2 : m + 1 < l.length := by have := begL_lt hib; omega
                  have h3 : goesL l m = true := by
                    unfold goesL; rw [hd, decide_eq_true hlt2]
                    have h4 : l.getD (m + 1) 0 ≠ 93 := by
                      intro h5; unfold isL at h93; rw [decide_eq_true hlt2, h5] at h93; simp at h93
                    show (true && (true && (l.getD (m + 1) 0 != 93))) = true
                    rw [Bool.true_and, Bool.true_and, bne_iff_ne]; exact h4
                  have hm : memM l n = .bad n 4 := by
                    unfold memM; rw [hbg0, hL]; simp only [Bool.false_eq_true, if_false]; rw [h3, hib]; rfl
                  obtain rfl : R = .bad n 4 := by
                    rcases HC.out with ⟨a, c, h1, h2⟩ | ⟨q, m', h1, _⟩
                    · rw [hm] at h1; rw [h2]; exact h1.symm
                    · rw [hm] at h1; cases h1
                  have id2 := IDB.out m (by omega)
                  rw [show begL l m 45 93 = false by unfold begL; rw [h93, Bool.and_false]] at id2
                  have ID2 := Lib.hid id2
                  have ib2 := IBB.out (m + 1) (by omega)
                  rw [hib] at ib2
                  have IB2 := Lib.hid ib2
                  have hst := got_store r gZ_size (badG 4 (n : Int)) (badG_len _ _) (badG_one _ _)
                  unfold badG at hst
                  have hrw := Lib.hid (got_row r (badG 4 (n : Int)))
                  have h8 : Hid (Below w.heap.size w (wr.setRow w.heap.size (badG 4 (n : Int)).toArray)) := below_setRow hB (Nat.le_refl _) _
                  have hGL : Hid ((badG 4 (n : Int)).length = 259) := badG_len _ _
                  unfold badG at hrw h8 hGL
                  clear hm hL hbg0 HC IBB OB OK1 id1 id2 ib2 hd IDS IDB h93 hib h3
                  unfold bv at ok
                  generalize c.toNat = x at *
                  generalize m + 1 = mm at *
                  go_wp2_with fail
                  refine (hi.out _).mono ?_; rintro e w' ⟨rfl, rfl⟩; (try dsimp only)
                  go_wp2_with fail
                  refine (HIB.out _).mono ?_; rintro e w' ⟨rfl, rfl⟩; (try dsimp only)
                  go_wp2_with fail
                  refine (ok.out _).mono ?_; rintro e w' ⟨rfl, rfl⟩; (try dsimp only)
                  go_wp2_with fail
                  refine (ID1.out _).mono ?_; rintro e w' ⟨rfl, rfl⟩; (try dsimp only)
                  go_wp2_with fail
                  refine (ID2.out _).mono ?_; rintro e w' ⟨rfl, rfl⟩; (try dsimp only)
                  go_wp2_with fail
                  refine (IB2.out _).mono ?_; rintro e w' ⟨rfl, rfl⟩; (try dsimp only)
                  go_wp2
                  exact bodyPost_ret (got_ret hrw.out hGL.out _ rfl) rfl (show EndG false k (.bad n 4) w _ _ from ⟨rfl, h8.out⟩)
              · skip
                have hm : memM l n = .ok (rngP c.toNat c.toNat) m := by
                  have h3 : goesL l m = false := by
                    have h4 := (isL_lt h93).2
                    unfold goesL; rw [h4]; simp
                  unfold memM; rw [hbg0, hL]; simp only [Bool.false_eq_true, if_false]; rw [h3]; rfl
                have hrun2 : RunB l m false (fun x => p x || rngP c.toNat c.toNat x) R := by
                  rcases HC.out with ⟨a, e, h1, _⟩ | ⟨q, m', h1, h2⟩
                  · rw [hm] at h1; cases h1
                  · rw [hm] at h1; injection h1 with e1 e2; subst e1 e2; exact h2
                have HR2 := Lib.hid hrun2
                have hm9 : Hid (n < m ∧ m ≤ l.length) := (by omega : n < m ∧ m ≤ l.length)
                have hx := c.toNat_lt
                have hF0 : Hid (bolA (fillP p c.toNat c.toNat) = bolA p) := fillP_0 _ _
                have hF1 : Hid (∀ j, c.toNat ≤ j → j < 256 → (bolA (fillP p c.toNat j)).setIfInBounds j (.bool true) = bolA (fillP p c.toNat (j + 1))) := fun j h1 h2 => fillP_set p h1 h2
                have hF2 : Hid (∀ j, j = c.toNat + 1 → bolA (fillP p c.toNat j) = bolA (fun x => p x || rngP c.toNat c.toNat x)) := fun j h => fillP_end p (Or.inl h)
                have id2 := IDB.out m (by omega)
                rw [show begL l m 45 93 = true by unfold begL; rw [hd, h93]; rfl] at id2
                have ID2 := Lib.hid id2
                clear id2 h93
                clear hm hL hbg0 HC IBB OB OK1 id1 hd hrun2 IDS
                unfold bv at ok
                generalize c.toNat = x at *
                generalize (fun y => p y || rngP x x y) = P at *
                have wX : IntKind.i64.wrap (x : Int) = (x : Int) := by rw [IntKind.wrap_i64]; omega
                go_wp2_with fail
                refine (hi.out _).mono ?_; rintro e w' ⟨rfl, rfl⟩; (try dsimp only)
                go_wp2_with fail
                refine (HIB.out _).mono ?_; rintro e w' ⟨rfl, rfl⟩; (try dsimp only)
                go_wp2_with fail
                refine (ok.out _).mono ?_; rintro e w' ⟨rfl, rfl⟩; (try dsimp only)
                go_wp2_with fail
                refine (ID1.out _).mono ?_; rintro e w' ⟨rfl, rfl⟩; (try dsimp only)
                go_wp2_with fail
                refine (ID2.out _).mono ?_; rintro e w' ⟨rfl, rfl⟩; (try dsimp only)
                go_wp2
                obtain ⟨wq, hwq⟩ : ∃ q, q = wr := ⟨_, rfl⟩
                subst hwq
                go_loopw [22] (fun t22 wv => ∃ j : Nat, x ≤ j ∧ j ≤ x + 1 ∧ t22 = .int .i64 (j : Int) ∧ Row wv w.heap.size 34 gZ ∧ Row wv (w.heap.size + 1) 32 (bolA (fillP p x j)) ∧ Below w.heap.size w wv) (fun t22 _ => x + 1 - (intOf t22).toNat)
                case atStart => exact ⟨x, Nat.le_refl _, by omega, rfl, r, by rw [hF0.out]; exact rs, hB⟩
                case round =>
                  obtain ⟨j, hj1, hj2, rfl, q1, q2, q3⟩ := hrel
                  by_cases hjx : j ≤ x
                  · have tj : decide ((j : Int) ≤ (x : Int)) = true := decide_eq_true (by omega)
                    have tj' : decide (j ≤ x) = true := decide_eq_true hjx
                    have hj0 : (0 : Int) ≤ (j : Int) := by omega
                    have hj256 : (j : Int) < 256 := by omega
                    have kx := (q2.cell j).trans (bolA_get _ (by omega : j < 256))
                    have fx := q2.froz j
                    have QQ := Lib.hid (And.intro q1 (And.intro q2 q3))
                    have hst2 := Lib.hid (hF1.out j hj1 (by omega))
                    clear q1 q2 q3
                    go_wp2
                    go_roundw
                    case rel =>
                      obtain ⟨q1, q2, q3⟩ := QQ.out
                      refine ⟨j + 1, by omega, by omega, by go_num, q1.far (by simp) _, ?_, ?_⟩
                      · have := q2.set j (.bool true)
                        rw [hst2.out] at this
                        exact this
                      · repeat (first | (with_reducible exact Below.refl _ _) | (with_reducible refine Below.drew ?_) | (refine Below.setCell ?_ (by first | exact Nat.le_refl _ | (simp; done) | (simp; omega) | omega) _) | (refine Below.alloc ?_ (by first | exact Nat.le_refl _ | (simp; done) | (simp; omega) | omega) _) | (refine Below.trans ?_ (Below.mono (by assumption) (by first | exact Nat.le_refl _ | (simp; done) | (simp; omega) | omega))))
                    case measure => simp [intOf]; omega
                  · have tj : decide ((j : Int) ≤ (x : Int)) = false := decide_eq_false (by omega)
                    have tj' : decide (j ≤ x) = false := decide_eq_false hjx
                    have hq2 := hF2.out j (by omega)
                    rw [hq2] at q2
                    go_wp2
                    go_roundw
                    case rel => exact ⟨m, false, P, rfl, rfl, by omega, HR2.out, q1, q2, q3⟩
                    case measure => have h9 := hm9.out; simp [intOf]; omega
        · rw [hbg0] at HIB
          have hbe := begL_lt hbg0
          have hmc : memM l n = clasM l n := by unfold memM; rw [if_pos hbg0]
          have HMC := Lib.hid hmc
          have wE : IntKind.i64.wrap ((n : Int) + 2) = ((n + 2 : Nat) : Int) := by rw [IntKind.wrap_i64]; omega
          obtain ⟨a2, ha2⟩ : ∃ y, y = n + 2 := ⟨_, rfl⟩
          have HA2 := Lib.hid ha2
          rw [← ha2] at wE hbe
          clear hmc hbg0 ha2
          go_wp2_with fail
          refine (hi.out _).mono ?_; rintro e w' ⟨rfl, rfl⟩; (try dsimp only)
          go_wp2_with fail
          refine (HIB.out _).mono ?_; rintro e w' ⟨rfl, rfl⟩; (try dsimp only)
          go_wp2
          obtain ⟨wq, hwq⟩ : ∃ q, q = wr := ⟨_, rfl⟩
          subst hwq
          go_loopw [9] (fun t9 wv => ∃ e : Nat, a2 ≤ e ∧ e ≤ l.length ∧ t9 = .int .i64 (e : Int) ∧ Hid (NoEnd l a2 e) ∧ Row wv w.heap.size 34 gZ ∧ Row wv (w.heap.size + 1) 32 (bolA p) ∧ Below w.heap.size w wv) (fun t9 _ => l.length - (intOf t9).toNat)
          case atStart => exact ⟨a2, Nat.le_refl _, hbe, rfl, fun j h1 h2 => by omega, r, rs, hB⟩
          case round =>
            obtain ⟨e, he1, he2, rfl, hne, q1, q2, q3⟩ := hrel
            by_cases hel : e < l.length
            · have te : decide ((e : Int) < (l.length : Int)) = true := decide_eq_true (by omega)
              have te' : decide (e < l.length) = true := decide_eq_true hel
              have tg : decide ((l.length : Int) ≤ (e : Int)) = false := decide_eq_false (by omega)
              have tg' : decide (l.length ≤ e) = false := decide_eq_false (by omega)
              have ic := ICL.out e (by omega)
              have wF : IntKind.i64.wrap ((e : Int) + 1) = (e : Int) + 1 := by rw [IntKind.wrap_i64]; omega
              cases hb2 : begL l e 58 93
              · rw [hb2] at ic
                have IC := Lib.hid ic
                have QQ := Lib.hid (And.intro q1 (And.intro q2 q3))
                have HB2 := Lib.hid hb2
                clear q1 q2 q3 ic hb2
                go_wp2_with fail
                refine (IC.out _).mono ?_; rintro e9 w' ⟨rfl, rfl⟩; (try dsimp only)
                go_wp2
                go_roundw
                case rel =>
                  obtain ⟨q1, q2, q3⟩ := QQ.out
                  refine ⟨e + 1, by omega, by omega, by go_num, ?_, q1, q2, q3⟩
                  intro j h1 h2
                  by_cases h3 : j = e
                  · rw [h3]; exact HB2.out
                  · exact hne.out j h1 (by omega)
                case measure => simp [intOf]; omega
              · rw [hb2] at ic
                have IC := Lib.hid ic
                have hix : Lib.index (l.drop (n + 2)) [58, 93] = ((e - a2 : Nat) : Int) := by
                  have ha2 := HA2.out
                  rw [← ha2]; exact scan_hit he1 he2 hne.out hb2
                have hb3 := begL_lt hb2
                have hsl2 := SLL.out a2 e he1 he2
                have wK : IntKind.i64.wrap ((e : Int) + 2) = ((e + 2 : Nat) : Int) := by rw [IntKind.wrap_i64]; omega
                have hcm : clasM l n = match clsL ((l.drop a2).take (e - a2)) with
                    | none => .bad n 8
                    | some q => .ok q (e + 2) := by
                  unfold clasM
                  have ha2 := HA2.out
                  rw [hix, if_neg (by omega), ← ha2, Int.toNat_natCast, show a2 + (e - a2) + 2 = e + 2 by omega]
                  rfl
                have IN := fun c hc W => in_u ((l.drop a2).take (e - a2)) c hc W
                cases hcl : clsL ((l.drop a2).take (e - a2)) with
                | none =>
                  rw [hcl] at hcm IN
                  have hm : memM l n = .bad n 8 := HMC.out.trans hcm
                  obtain rfl : R = .bad n 8 := by
                    rcases HC.out with ⟨a, c, h1, h2⟩ | ⟨q, m', h1, _⟩
                    · rw [hm] at h1; rw [h2]; exact h1.symm
                    · rw [hm] at h1; cases h1
                  have IN0 := Lib.hid (IN 0 (by omega))
                  have hst := got_store q1 gZ_size (badG 8 (n : Int)) (badG_len _ _) (badG_one _ _)
                  unfold badG at hst
                  have hrw := Lib.hid (got_row q1 (badG 8 (n : Int)))
                  have h8 : Hid (Below w.heap.size w (wr.setRow w.heap.size (badG 8 (n : Int)).toArray)) := below_setRow q3 (Nat.le_refl _) _
                  have hGL : Hid ((badG 8 (n : Int)).length = 259) := badG_len _ _
                  unfold badG at hrw h8 hGL
                  clear hm HC IBB OB OK1 IDS IDB hne HMC r rs hB q1 q2 q3 IN hcm hcl hix ic hb2
                  generalize S8 ((l.drop a2).take (e - a2)) = nm at *
                  go_wp2_with fail
                  refine (IC.out _).mono ?_; rintro e9 w' ⟨rfl, rfl⟩; (try dsimp only)
                  go_wp2_with fail
                  refine (IN0.out _).mono ?_; rintro e9 w' ⟨rfl, rfl⟩; (try dsimp only)
                  go_wp2
                  exact bodyPost_ret (got_ret hrw.out hGL.out _ rfl) rfl (show EndG false k (.bad n 8) w _ _ from ⟨rfl, h8.out⟩)
                | some q =>
                  rw [hcl] at hcm IN
                  have hm : memM l n = .ok q (e + 2) := HMC.out.trans hcm
                  have hrun2 : RunB l (e + 2) false (fun x => p x || q x) R := by
                    rcases HC.out with ⟨a, e, h1, _⟩ | ⟨q, m', h1, h2⟩
                    · rw [hm] at h1; cases h1
                    · rw [hm] at h1; injection h1 with e1 e2; subst e1 e2; exact h2
                  have HR2 := Lib.hid hrun2
                  have IN1 := Lib.hid IN
                  have hm9 : Hid (n < e + 2) := by have h9 := HA2.out; show n < e + 2; omega
                  have IN0 := Lib.hid (IN 0 (by omega))
                  clear hm HC IBB OB OK1 IDS IDB hne HMC r rs hB IN hcm hcl hix ic hb2
                  generalize S8 ((l.drop a2).take (e - a2)) = nm at *
                  go_wp2_with fail
                  refine (IC.out _).mono ?_; rintro e9 w' ⟨rfl, rfl⟩; (try dsimp only)
                  go_wp2_with fail
                  refine (IN0.out _).mono ?_; rintro e9 w' ⟨rfl, rfl⟩; (try dsimp only)
                  go_wp2
                  obtain ⟨wq2, hwq2⟩ : ∃ q, q = wr := ⟨_, rfl⟩
                  subst hwq2
                  go_loopw [13] (fun tk wv => ∃ j : Nat, j ≤ 256 ∧ tk = .int .i64 (j : Int) ∧ Row wv w.heap.size 34 gZ ∧ Row wv (w.heap.size + 1) 32 (bolA (upP p (fun x => p x || q x) j)) ∧ Below w.heap.size w wv) (fun tk _ => 256 - (intOf tk).toNat)
                  case atStart => exact ⟨0, by omega, rfl, q1, by rw [upP_0]; exact q2, q3⟩
                  case round =>
                    obtain ⟨j, hj, rfl, r1, r2, r3⟩ := hrel
                    by_cases hjx : j < 256
                    · have tj : decide ((j : Int) < 256) = true := decide_eq_true (by omega)
                      have hj0 : (0 : Int) ≤ (j : Int) := by omega
                      have hj256 : (j : Int) < 256 := by omega
                      have kx := (r2.cell j).trans ((bolA_get _ hjx).trans (by rw [upP_at]))
                      have fx := r2.froz j
                      have QQ := Lib.hid (And.intro r1 (And.intro r2 r3))
                      have hst2 : Hid ((bolA (upP p (fun x => p x || q x) j)).setIfInBounds j (.bool (p j || q j)) = bolA (upP p (fun x => p x || q x) (j + 1))) := upP_set p (fun x => p x || q x) hjx
                      have inj := Lib.hid (IN1.out j hjx)
                      clear r1 r2 r3 IN0 IN1
                      simp only [Option.getD_some, Option.isSome_some] at inj
                      cases hp : p j
                      · rw [hp] at kx hst2
                        cases hq : q j
                        · rw [hq] at inj hst2
                          go_wp2_with fail
                          refine (inj.out _).mono ?_; rintro e9 w' ⟨rfl, rfl⟩; (try dsimp only)
                          go_wp2
                          go_roundw
                          case rel =>
                            obtain ⟨q1, q2, q3⟩ := QQ.out
                            refine ⟨j + 1, by omega, by go_num, q1.far (by simp) _, ?_, ?_⟩
                            · have := q2.set j (.bool false)
                              first | (rw [hst2.out] at this; exact this) | (have h9 := hst2.out; simp only [Bool.or_false, Bool.or_true, Bool.false_or, Bool.true_or] at h9; rw [h9] at this; exact this)
                            · repeat (first | (with_reducible exact Below.refl _ _) | (with_reducible refine Below.drew ?_) | (refine Below.setCell ?_ (by first | exact Nat.le_refl _ | (simp; done) | (simp; omega) | omega) _) | (refine Below.alloc ?_ (by first | exact Nat.le_refl _ | (simp; done) | (simp; omega) | omega) _) | (refine Below.trans ?_ (Below.mono (by assumption) (by first | exact Nat.le_refl _ | (simp; done) | (simp; omega) | omega))))
                          case measure => simp [intOf]; omega
                        · rw [hq] at inj hst2
                          go_wp2_with fail
                          refine (inj.out _).mono ?_; rintro e9 w' ⟨rfl, rfl⟩; (try dsimp only)
                          go_wp2
                          go_roundw
                          case rel =>
                            obtain ⟨q1, q2, q3⟩ := QQ.out
                            refine ⟨j + 1, by omega, by go_num, q1.far (by simp) _, ?_, ?_⟩
                            · have := q2.set j (.bool true)
                              first | (rw [hst2.out] at this; exact this) | (have h9 := hst2.out; simp only [Bool.or_false, Bool.or_true, Bool.false_or, Bool.true_or] at h9; rw [h9] at this; exact this)
                            · repeat (first | (with_reducible exact Below.refl _ _) | (with_reducible refine Below.drew ?_) | (refine Below.setCell ?_ (by first | exact Nat.le_refl _ | (simp; done) | (simp; omega) | omega) _) | (refine Below.alloc ?_ (by first | exact Nat.le_refl _ | (simp; done) | (simp; omega) | omega) _) | (refine Below.trans ?_ (Below.mono (by assumption) (by first | exact Nat.le_refl _ | (simp; done) | (simp; omega) | omega))))
                          case measure => simp [intOf]; omega
                      · rw [hp] at kx hst2
                        cases hq : q j
                        · rw [hq] at inj hst2
                          go_wp2_with fail
                          refine (inj.out _).mono ?_; rintro e9 w' ⟨rfl, rfl⟩; (try dsimp only)
                          go_wp2
                          go_roundw
                          case rel =>
                            obtain ⟨q1, q2, q3⟩ := QQ.out
                            refine ⟨j + 1, by omega, by go_num, q1.far (by simp) _, ?_, ?_⟩
                            · have := q2.set j (.bool true)
                              first | (rw [hst2.out] at this; exact this) | (have h9 := hst2.out; simp only [Bool.or_false, Bool.or_true, Bool.false_or, Bool.true_or] at h9; rw [h9] at this; exact this)
                            · repeat (first | (with_reducible exact Below.refl _ _) | (with_reducible refine Below.drew ?_) | (refine Below.setCell ?_ (by first | exact Nat.le_refl _ | (simp; done) | (simp; omega) | omega) _) | (refine Below.alloc ?_ (by first | exact Nat.le_refl _ | (simp; done) | (simp; omega) | omega) _) | (refine Below.trans ?_ (Below.mono (by assumption) (by first | exact Nat.le_refl _ | (simp; done) | (simp; omega) | omega))))
                          case measure => simp [intOf]; omega
                        · rw [hq] at inj hst2
                          go_wp2_with fail
                          refine (inj.out _).mono ?_; rintro e9 w' ⟨rfl, rfl⟩; (try dsimp only)
                          go_wp2
                          go_roundw
                          case rel =>
                            obtain ⟨q1, q2, q3⟩ := QQ.out
                            refine ⟨j + 1, by omega, by go_num, q1.far (by simp) _, ?_, ?_⟩
                            · have := q2.set j (.bool true)
                              first | (rw [hst2.out] at this; exact this) | (have h9 := hst2.out; simp only [Bool.or_false, Bool.or_true, Bool.false_or, Bool.true_or] at h9; rw [h9] at this; exact this)
                            · repeat (first | (with_reducible exact Below.refl _ _) | (with_reducible refine Below.drew ?_) | (refine Below.setCell ?_ (by first | exact Nat.le_refl _ | (simp; done) | (simp; omega) | omega) _) | (refine Below.alloc ?_ (by first | exact Nat.le_refl _ | (simp; done) | (simp; omega) | omega) _) | (refine Below.trans ?_ (Below.mono (by assumption) (by first | exact Nat.le_refl _ | (simp; done) | (simp; omega) | omega))))
                          case measure => simp [intOf]; omega
                    · have tj : decide ((j : Int) < 256) = false := decide_eq_false (by omega)
                      obtain rfl : j = 256 := by omega
                      rw [upP_all] at r2
                      go_wp2
                      go_roundw
                      case rel => exact ⟨e + 2, false, _, rfl, rfl, by omega, HR2.out, r1, r2, r3⟩
                      case measure => have h9 := hm9.out; simp [intOf]; omega
            · have te : decide ((e : Int) < (l.length : Int)) = false := decide_eq_false (by omega)
              have te' : decide (e < l.length) = false := decide_eq_false hel
              have tg : decide ((l.length : Int) ≤ (e : Int)) = true := decide_eq_true (by omega)
              have tg' : decide (l.length ≤ e) = true := decide_eq_true (by omega)
              have hm : memM l n = .bad l.length 7 := by
                rw [HMC.out]
                unfold clasM
                have ha2 := HA2.out
                rw [← ha2, scan_end (by omega) (by omega) hne.out, if_pos (by omega)]
              obtain rfl : R = .bad l.length 7 := by
                rcases HC.out with ⟨a, c, h1, h2⟩ | ⟨q, m', h1, _⟩
                · rw [hm] at h1; rw [h2]; exact h1.symm
                · rw [hm] at h1; cases h1
              have hst := got_store q1 gZ_size (badG 7 (l.length : Int)) (badG_len _ _) (badG_one _ _)
              unfold badG at hst
              have hrw := Lib.hid (got_row q1 (badG 7 (l.length : Int)))
              have h8 : Hid (Below w.heap.size w (wr.setRow w.heap.size (badG 7 (l.length : Int)).toArray)) := below_setRow q3 (Nat.le_refl _) _
              have hGL : Hid ((badG 7 (l.length : Int)).length = 259) := badG_len _ _
              unfold badG at hrw h8 hGL
              clear hm HC IBB OB OK1 IDS IDB hne HMC r rs hB q1 q2 q3
              go_wp2
              exact bodyPost_ret (got_ret hrw.out hGL.out _ rfl) rfl (show EndG false k (.bad l.length 7) w _ _ from ⟨rfl, h8.out⟩)
end Go.Proofs.YtfmekmbdienbjaaDoor
