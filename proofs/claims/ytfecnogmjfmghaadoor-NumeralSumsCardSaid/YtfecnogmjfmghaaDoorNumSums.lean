/- The walk of NumeralSums. -/
import Derived.Test.YtfecnogmjfmghaaDoorNumQ
namespace Go.Proofs.YtfecnogmjfmghaaDoor
set_option linter.unusedSimpArgs false
set_option linter.unusedVariables false
set_option linter.unnecessarySimpa false
open Go.RowKit

theorem mv_z {m : Nat} (hm : m < topN) (LN : Nat) : (.tuple #[ZV (fitZ (m : Int)), .int .i64 (LN : Int), errV (fitC ((m : Int).natAbs))] : Value) = .tuple #[MV false m, .int .i64 (LN : Int), .nilIface] := by
  have h1 : fitZ (m : Int) = (m : Int) := by unfold fitZ; rw [if_pos (by simpa using hm)]
  have h2 : fitC ((m : Int).natAbs) = 0 := by unfold fitC; rw [if_pos (by simpa using hm)]
  rw [h1, h2, errV0]
  unfold ZV
  rw [Int.natAbs_natCast, show negZ (m : Int) = false by unfold negZ; simp]

set_option maxRecDepth 100000 in
set_option maxHeartbeats 8000000 in
theorem sums2_main (m f k : Nat) (hg : goodB false m = true) (hf : f ≤ 60) (hk : k ≤ 60) (w : World) :
    Calls Tryd.prog 7 #[MV false m, .int .u8 (f : Int), .int .u8 (k : Int)] w fun e w' => e = .returned (.bool true) ∧ Below w.heap.size w w' := by
  have hm : m < topN := by unfold goodB at hg; simp at hg; exact hg
  have HA : Hid (∀ w, Calls Tryd.prog 9 #[] w fun e w' => e = .returned (.bool true) ∧ Below w.heap.size w w') := awake2
  have HG : Hid (∀ w, Calls Tryd.prog 15 #[MV false m] w fun e w' => e = .returned (.bool true) ∧ Below w.heap.size w w') := by
    intro w
    have := good_m false m w
    rwa [hg] at this
  have HT : Hid (∀ w, Calls Tryd.prog 18 #[MV false m] w fun e w' => e = .returned (.string (S8 (textL false m))) ∧ Below w.heap.size w w') := text_u false m
  have HB : Hid (∀ j q, numZ (zer j ++ ((whoL m ++ ([46] ++ fraL m)) ++ zer q)) = (m : Int) ∧ numN (zer j ++ ((whoL m ++ ([46] ++ fraL m)) ++ zer q)) = (zer j ++ ((whoL m ++ ([46] ++ fraL m)) ++ zer q)).length) := fun j q => zeros_back hm j q
  have MVz := mv_z hm
  have HE : Hid (eqM false m false m = true) := by show _ = _; unfold eqM; simp
  have hTl : (textL false m).length ≤ 38 := text_len false m
  have HTP := Lib.hid (text_point hg)
  have eA : ∀ w, (binOp .eql 26 (MV false m) (MV false m)).run Tryd.prog w = .ok (.bool true) w := fun w => by rw [eql_mm, HE.out]
  have g1 : decide ((60 : Int) < (f : Int)) = false := by simp; omega
  have g2 : decide ((60 : Int) < (k : Int)) = false := by simp; omega
  clear hg hm
  generalize textL false m = T at *
  generalize whoL m ++ ([46] ++ fraL m) = T1 at *
  have hT1 : T1.length ≤ 39 := by rw [← HTP.out]; split <;> first | omega | (rw [List.length_append]; simp only [List.length_cons, List.length_nil]; omega)
  go_enter Tryd.func7, Tryd.ntmps7
  go_wp2_with fail; refine (HA.out _).mono ?_; rintro ew1 w1 ⟨rfl, hbw1⟩; obtain ⟨hcw1, hfw1⟩ := bcell hbw1; (try simp only [World.size_drew, World.cell?_drew, World.frozen?_drew] at hcw1 hfw1); have hzw1 := hbw1.size; (try simp at hzw1); have : w.heap.size < w1.heap.size := (by omega); (try dsimp only)
  go_wp2_with fail; refine (HG.out _).mono ?_; rintro ew2 w2 ⟨rfl, hbw2⟩; obtain ⟨hcw2, hfw2⟩ := bcell hbw2; (try simp only [World.size_drew, World.cell?_drew, World.frozen?_drew] at hcw2 hfw2); have hzw2 := hbw2.size; (try simp at hzw2); have : w.heap.size < w2.heap.size := (by omega); (try dsimp only)
  go_wp2_with fail; refine (HT.out _).mono ?_; rintro ew3 w3 ⟨rfl, hbw3⟩; obtain ⟨hcw3, hfw3⟩ := bcell hbw3; (try simp only [World.size_drew, World.cell?_drew, World.frozen?_drew] at hcw3 hfw3); have hzw3 := hbw3.size; (try simp at hzw3); have : w.heap.size < w3.heap.size := (by omega); (try dsimp only)
  have r0 : Row w3 w.heap.size 26 #[.bool false, .int .u64 (hiN m : Int), .int .u64 (loN m : Int)] := ((((Row.new w _ _).on hbw1)).on hbw2).on hbw3
  have hB3 : Below w.heap.size w w3 := by repeat (first | (with_reducible exact Below.refl _ _) | (with_reducible refine Below.drew ?_) | (refine Below.setCell ?_ (by first | exact Nat.le_refl _ | (simp; done) | (simp; omega) | omega) _) | (refine Below.alloc ?_ (by first | exact Nat.le_refl _ | (simp; done) | (simp; omega) | omega) _) | (refine Below.trans ?_ (Below.mono (by assumption) (by first | exact Nat.le_refl _ | (simp; done) | (simp; omega) | omega))))
  clear hcw1 hfw1 hcw2 hfw2 hcw3 hfw3 hbw1 hbw2 hbw3 g1 g2
  go_wp2
  go_loop [8, 9] (fun u i => ∃ j : Nat, j ≤ T.length ∧ i = .int .i64 (j : Int) ∧ u = .bool (ptB (T.take j))) (fun _ i => T.length - (intOf i).toNat)
  case atStart => exact ⟨0, by omega, rfl, rfl⟩
  case round =>
    obtain ⟨j, hj, rfl, rfl⟩ := hrel
    have hln := s8_len T
    by_cases hlt : j < T.length
    · have hlt' : (j : Int) < (T.length : Int) := by omega
      have hge : (0 : Int) ≤ (j : Int) := by omega
      have hat := s8_at T j hlt (j : Int) rfl
      have HPT := Lib.hid (ptB_take hlt)
      unfold bv at hat
      have HP1 : Hid (∃ p1, ptB (T.take (j + 1)) = p1) := ⟨_, rfl⟩
      obtain ⟨p1, hp1⟩ := HP1.out
      rw [hp1] at HPT
      have HQ1 := Lib.hid hp1
      clear hp1 HP1
      generalize ptB (T.take j) = p0 at *
      generalize (T.getD j 0).toNat = x at *
      generalize S8 T = sT at *
      cases p0
      · by_cases hx : x = 46
        · have t1 : ((x : Int) == 46) = true := by rw [hx]; rfl
          obtain rfl : p1 = true := by rw [HPT.out, hx]; rfl
          clear hx
          go_wp2
          go_round
          case rel => exact ⟨j + 1, by omega, by go_num, by rw [HQ1.out]⟩
          case measure => simp [intOf]; omega
        · have t1 : ((x : Int) == 46) = false := by rw [beq_eq_false_iff_ne]; omega
          obtain rfl : p1 = false := by rw [HPT.out]; simp [hx]
          clear hx
          go_wp2
          go_round
          case rel => exact ⟨j + 1, by omega, by go_num, by rw [HQ1.out]⟩
          case measure => simp [intOf]; omega
      · obtain rfl : p1 = true := by rw [HPT.out]; rfl
        go_wp2
        go_round
        case rel => exact ⟨j + 1, by omega, by go_num, by rw [HQ1.out]⟩
        case measure => simp [intOf]; omega
    · have hjl : j = T.length := by omega
      subst hjl
      rw [List.take_of_length_le (Nat.le_refl _)]
      cases hpt : ptB T
      · have e1 : T1 = T ++ [46] := by rw [← HTP.out, hpt]; rfl
        have a0 : ∀ W, (Op.stringOp .add (S8 T) ⟨#[46]⟩).run Tryd.prog W = .ok (.string (S8 T1)) W := by
          intro W; rw [e1]; exact s8_add T [46] (by simp only [List.length_cons, List.length_nil]; omega) W
        clear hpt e1 HTP
        generalize S8 T = sT at *
        go_wp2
        go_loop [7, 10] (fun u i => ∃ j : Nat, j ≤ f ∧ i = .int .i64 (j : Int) ∧ u = .string (S8 (zer j ++ T1))) (fun _ i => f - (intOf i).toNat)
        case atStart => exact ⟨0, by omega, rfl, by rw [show zer 0 = [] from rfl, List.nil_append]⟩
        case round =>
          obtain ⟨j, hj, rfl, rfl⟩ := hrel
          by_cases hlt : j < f
          · have hlt' : (j : Int) < (f : Int) := by omega
            have hge : (0 : Int) ≤ (j : Int) := by omega
            have a1 : ∀ W, (Op.stringOp .add ⟨#[48]⟩ (S8 (zer j ++ T1))).run Tryd.prog W = .ok (.string (S8 (zer (j + 1) ++ T1))) W := by
              intro W
              have := s8_add [48] (zer j ++ T1) (by simp only [List.length_append, zer_len, List.length_cons, List.length_nil]; omega) W
              rw [show [48] ++ (zer j ++ T1) = zer (j + 1) ++ T1 by rw [← List.append_assoc, show ([48] : List UInt8) = zer 1 from rfl, zer_add, Nat.add_comm]] at this
              exact this
            obtain ⟨sn, hsn⟩ : ∃ sn, sn = S8 (zer (j + 1) ++ T1) := ⟨_, rfl⟩
            rw [← hsn] at a1
            have HSN := Lib.hid hsn
            clear hsn
            generalize S8 (zer j ++ T1) = so at *
            go_wp2
            go_round
            case rel => exact ⟨j + 1, by omega, by go_num, by rw [HSN.out]⟩
            case measure => simp [intOf]; omega
          · obtain rfl : j = f := by omega
            go_wp2
            go_loop [7, 11] (fun u i => ∃ q : Nat, q ≤ k ∧ i = .int .i64 (q : Int) ∧ u = .string (S8 (zer j ++ (T1 ++ zer q)))) (fun _ i => k - (intOf i).toNat)
            case atStart => exact ⟨0, by omega, rfl, by rw [show zer 0 = [] from rfl, List.append_nil]⟩
            case round =>
              obtain ⟨q, hq, rfl, rfl⟩ := hrel
              by_cases hlt : q < k
              · have hlt' : (q : Int) < (k : Int) := by omega
                have hge : (0 : Int) ≤ (q : Int) := by omega
                have a1 : ∀ W, (Op.stringOp .add (S8 (zer j ++ (T1 ++ zer q))) ⟨#[48]⟩).run Tryd.prog W = .ok (.string (S8 (zer j ++ (T1 ++ zer (q + 1))))) W := by
                  intro W
                  have := s8_add (zer j ++ (T1 ++ zer q)) [48] (by simp only [List.length_append, zer_len, List.length_cons, List.length_nil]; omega) W
                  rw [show (zer j ++ (T1 ++ zer q)) ++ [48] = zer j ++ (T1 ++ zer (q + 1)) by rw [List.append_assoc, List.append_assoc, show ([48] : List UInt8) = zer 1 from rfl, zer_add]] at this
                  exact this
                obtain ⟨sn, hsn⟩ : ∃ sn, sn = S8 (zer j ++ (T1 ++ zer (q + 1))) := ⟨_, rfl⟩
                rw [← hsn] at a1
                have HSN := Lib.hid hsn
                clear hsn
                generalize S8 (zer j ++ (T1 ++ zer q)) = so at *
                go_wp2
                go_round
                case rel => exact ⟨q + 1, by omega, by go_num, by rw [HSN.out]⟩
                case measure => simp [intOf]; omega
              · obtain rfl : q = k := by omega
                have hB := HB.out j q
                have kc := run_cv (zer j ++ (T1 ++ zer q))
                have hln := s8_len (zer j ++ (T1 ++ zer q))
                have hll : (zer j ++ (T1 ++ zer q)).length ≤ 200 := by simp only [List.length_append, zer_len]; omega
                have HP : Hid (∀ W, Calls Tryd.prog 10 #[.slice (some ⟨W.heap.size, 0, none⟩) (zer j ++ (T1 ++ zer q)).length (cvCap W (zer j ++ (T1 ++ zer q)))] (cvW W (zer j ++ (T1 ++ zer q))) fun e w' => e = .returned (.tuple #[MV false m, .int .i64 (((zer j ++ (T1 ++ zer q)).length : Nat) : Int), .nilIface]) ∧ Below W.heap.size (cvW W (zer j ++ (T1 ++ zer q))) w') := by
                  intro W
                  have := prefix_u (cv_bs W (zer j ++ (T1 ++ zer q)) (by unfold maxLen; omega)) (by omega)
                  rw [hB.1, hB.2, MVz] at this
                  refine this.mono ?_
                  rintro e w' ⟨rfl, hb⟩
                  exact ⟨rfl, hb.mono (by rw [cv_size]; omega)⟩
                have hcw := fun W => cv_below W (zer j ++ (T1 ++ zer q))
                have HCW := Lib.hid hcw
                have HCS := Lib.hid (fun W => cv_size W (zer j ++ (T1 ++ zer q)))
                clear hB hcw
                generalize (zer j ++ (T1 ++ zer q)).length = LN at *
                obtain ⟨cvc, hcvc⟩ : ∃ cvc, cvc = fun W => cvCap W (zer j ++ (T1 ++ zer q)) := ⟨_, rfl⟩
                generalize S8 (zer j ++ (T1 ++ zer q)) = so at *
                generalize zer j ++ (T1 ++ zer q) = LL at *
                go_wp2_with fail
                refine (HP.out _).mono ?_
                rintro e w4 ⟨rfl, hb4⟩
                have hB34 : Below w3.heap.size w3 w4 := (HCW.out w3).trans hb4
                have rq := r0.on hB34
                have hB4 : Below w.heap.size w w4 := hB3.trans (hB34.mono hB3.size)
                have hz4 : w.heap.size < w4.heap.size := rq.lt
                have q0 := rq.cell 0
                have q1 := rq.cell 1
                have q2 := rq.cell 2
                simp only [List.getElem?_toArray, List.getElem?_cons_zero, List.getElem?_cons_succ] at q0 q1 q2
                clear hB34 hb4 r0 hB3 kc
                go_wp2
                go_ret
                refine ⟨rfl, ?_⟩
                repeat (first | (with_reducible exact Below.refl _ _) | (with_reducible refine Below.drew ?_) | (refine Below.setCell ?_ (by first | exact Nat.le_refl _ | (simp; done) | (simp; omega) | omega) _) | (refine Below.alloc ?_ (by first | exact Nat.le_refl _ | (simp; done) | (simp; omega) | omega) _) | (refine Below.trans ?_ (Below.mono (by assumption) (by first | exact Nat.le_refl _ | (simp; done) | (simp; omega) | omega))))
      · have e1 : T1 = T := by rw [← HTP.out, hpt]; rfl
        clear hpt
        subst e1
        clear HTP
        go_wp2
        go_loop [7, 10] (fun u i => ∃ j : Nat, j ≤ f ∧ i = .int .i64 (j : Int) ∧ u = .string (S8 (zer j ++ T1))) (fun _ i => f - (intOf i).toNat)
        case atStart => exact ⟨0, by omega, rfl, by rw [show zer 0 = [] from rfl, List.nil_append]⟩
        case round =>
          obtain ⟨j, hj, rfl, rfl⟩ := hrel
          by_cases hlt : j < f
          · have hlt' : (j : Int) < (f : Int) := by omega
            have hge : (0 : Int) ≤ (j : Int) := by omega
            have a1 : ∀ W, (Op.stringOp .add ⟨#[48]⟩ (S8 (zer j ++ T1))).run Tryd.prog W = .ok (.string (S8 (zer (j + 1) ++ T1))) W := by
              intro W
              have := s8_add [48] (zer j ++ T1) (by simp only [List.length_append, zer_len, List.length_cons, List.length_nil]; omega) W
              rw [show [48] ++ (zer j ++ T1) = zer (j + 1) ++ T1 by rw [← List.append_assoc, show ([48] : List UInt8) = zer 1 from rfl, zer_add, Nat.add_comm]] at this
              exact this
            obtain ⟨sn, hsn⟩ : ∃ sn, sn = S8 (zer (j + 1) ++ T1) := ⟨_, rfl⟩
            rw [← hsn] at a1
            have HSN := Lib.hid hsn
            clear hsn
            generalize S8 (zer j ++ T1) = so at *
            go_wp2
            go_round
            case rel => exact ⟨j + 1, by omega, by go_num, by rw [HSN.out]⟩
            case measure => simp [intOf]; omega
          · obtain rfl : j = f := by omega
            go_wp2
            go_loop [7, 11] (fun u i => ∃ q : Nat, q ≤ k ∧ i = .int .i64 (q : Int) ∧ u = .string (S8 (zer j ++ (T1 ++ zer q)))) (fun _ i => k - (intOf i).toNat)
            case atStart => exact ⟨0, by omega, rfl, by rw [show zer 0 = [] from rfl, List.append_nil]⟩
            case round =>
              obtain ⟨q, hq, rfl, rfl⟩ := hrel
              by_cases hlt : q < k
              · have hlt' : (q : Int) < (k : Int) := by omega
                have hge : (0 : Int) ≤ (q : Int) := by omega
                have a1 : ∀ W, (Op.stringOp .add (S8 (zer j ++ (T1 ++ zer q))) ⟨#[48]⟩).run Tryd.prog W = .ok (.string (S8 (zer j ++ (T1 ++ zer (q + 1))))) W := by
                  intro W
                  have := s8_add (zer j ++ (T1 ++ zer q)) [48] (by simp only [List.length_append, zer_len, List.length_cons, List.length_nil]; omega) W
                  rw [show (zer j ++ (T1 ++ zer q)) ++ [48] = zer j ++ (T1 ++ zer (q + 1)) by rw [List.append_assoc, List.append_assoc, show ([48] : List UInt8) = zer 1 from rfl, zer_add]] at this
                  exact this
                obtain ⟨sn, hsn⟩ : ∃ sn, sn = S8 (zer j ++ (T1 ++ zer (q + 1))) := ⟨_, rfl⟩
                rw [← hsn] at a1
                have HSN := Lib.hid hsn
                clear hsn
                generalize S8 (zer j ++ (T1 ++ zer q)) = so at *
                go_wp2
                go_round
                case rel => exact ⟨q + 1, by omega, by go_num, by rw [HSN.out]⟩
                case measure => simp [intOf]; omega
              · obtain rfl : q = k := by omega
                have hB := HB.out j q
                have kc := run_cv (zer j ++ (T1 ++ zer q))
                have hln := s8_len (zer j ++ (T1 ++ zer q))
                have hll : (zer j ++ (T1 ++ zer q)).length ≤ 200 := by simp only [List.length_append, zer_len]; omega
                have HP : Hid (∀ W, Calls Tryd.prog 10 #[.slice (some ⟨W.heap.size, 0, none⟩) (zer j ++ (T1 ++ zer q)).length (cvCap W (zer j ++ (T1 ++ zer q)))] (cvW W (zer j ++ (T1 ++ zer q))) fun e w' => e = .returned (.tuple #[MV false m, .int .i64 (((zer j ++ (T1 ++ zer q)).length : Nat) : Int), .nilIface]) ∧ Below W.heap.size (cvW W (zer j ++ (T1 ++ zer q))) w') := by
                  intro W
                  have := prefix_u (cv_bs W (zer j ++ (T1 ++ zer q)) (by unfold maxLen; omega)) (by omega)
                  rw [hB.1, hB.2, MVz] at this
                  refine this.mono ?_
                  rintro e w' ⟨rfl, hb⟩
                  exact ⟨rfl, hb.mono (by rw [cv_size]; omega)⟩
                have hcw := fun W => cv_below W (zer j ++ (T1 ++ zer q))
                have HCW := Lib.hid hcw
                have HCS := Lib.hid (fun W => cv_size W (zer j ++ (T1 ++ zer q)))
                clear hB hcw
                generalize (zer j ++ (T1 ++ zer q)).length = LN at *
                obtain ⟨cvc, hcvc⟩ : ∃ cvc, cvc = fun W => cvCap W (zer j ++ (T1 ++ zer q)) := ⟨_, rfl⟩
                generalize S8 (zer j ++ (T1 ++ zer q)) = so at *
                generalize zer j ++ (T1 ++ zer q) = LL at *
                go_wp2_with fail
                refine (HP.out _).mono ?_
                rintro e w4 ⟨rfl, hb4⟩
                have hB34 : Below w3.heap.size w3 w4 := (HCW.out w3).trans hb4
                have rq := r0.on hB34
                have hB4 : Below w.heap.size w w4 := hB3.trans (hB34.mono hB3.size)
                have hz4 : w.heap.size < w4.heap.size := rq.lt
                have q0 := rq.cell 0
                have q1 := rq.cell 1
                have q2 := rq.cell 2
                simp only [List.getElem?_toArray, List.getElem?_cons_zero, List.getElem?_cons_succ] at q0 q1 q2
                clear hB34 hb4 r0 hB3 kc
                go_wp2
                go_ret
                refine ⟨rfl, ?_⟩
                repeat (first | (with_reducible exact Below.refl _ _) | (with_reducible refine Below.drew ?_) | (refine Below.setCell ?_ (by first | exact Nat.le_refl _ | (simp; done) | (simp; omega) | omega) _) | (refine Below.alloc ?_ (by first | exact Nat.le_refl _ | (simp; done) | (simp; omega) | omega) _) | (refine Below.trans ?_ (Below.mono (by assumption) (by first | exact Nat.le_refl _ | (simp; done) | (simp; omega) | omega))))

set_option maxRecDepth 100000 in
set_option maxHeartbeats 8000000 in
theorem sums2_w (b : Bool) (m f k : Nat) (w : World) :
    Calls Tryd.prog 7 #[MV b m, .int .u8 (f : Int), .int .u8 (k : Int)] w fun e w' => e = .returned (.bool true) ∧ Below w.heap.size w w' := by
  have HA : Hid (∀ w, Calls Tryd.prog 9 #[] w fun e w' => e = .returned (.bool true) ∧ Below w.heap.size w w') := awake2
  have HG : Hid (∀ w, Calls Tryd.prog 15 #[MV b m] w fun e w' => e = .returned (.bool (goodB b m)) ∧ Below w.heap.size w w') := good_m b m
  cases hg : goodB b m
  · rw [hg] at HG
    clear hg
    go_enter Tryd.func7, Tryd.ntmps7
    go_wp2_with fail; refine (HA.out _).mono ?_; rintro ew1 w1 ⟨rfl, hbw1⟩; obtain ⟨hcw1, hfw1⟩ := bcell hbw1; (try simp only [World.size_drew, World.cell?_drew, World.frozen?_drew] at hcw1 hfw1); have hzw1 := hbw1.size; (try simp at hzw1); have : w.heap.size < w1.heap.size := (by omega); (try dsimp only)
    go_wp2_with fail; refine (HG.out _).mono ?_; rintro ew2 w2 ⟨rfl, hbw2⟩; obtain ⟨hcw2, hfw2⟩ := bcell hbw2; (try simp only [World.size_drew, World.cell?_drew, World.frozen?_drew] at hcw2 hfw2); have hzw2 := hbw2.size; (try simp at hzw2); have : w.heap.size < w2.heap.size := (by omega); (try dsimp only)
    go_wp2
    go_ret
    refine ⟨rfl, ?_⟩
    repeat (first | (with_reducible exact Below.refl _ _) | (with_reducible refine Below.drew ?_) | (refine Below.setCell ?_ (by first | exact Nat.le_refl _ | (simp; done) | (simp; omega) | omega) _) | (refine Below.alloc ?_ (by first | exact Nat.le_refl _ | (simp; done) | (simp; omega) | omega) _) | (refine Below.trans ?_ (Below.mono (by assumption) (by first | exact Nat.le_refl _ | (simp; done) | (simp; omega) | omega))))
  · rw [hg] at HG
    cases b
    · by_cases hf : f ≤ 60
      · by_cases hk : k ≤ 60
        · exact sums2_main m f k hg hf hk w
        · have g1 : decide ((60 : Int) < (f : Int)) = false := by simp; omega
          have g2 : decide ((60 : Int) < (k : Int)) = true := by simp; omega
          clear hg hf hk
          go_enter Tryd.func7, Tryd.ntmps7
          go_wp2_with fail; refine (HA.out _).mono ?_; rintro ew1 w1 ⟨rfl, hbw1⟩; obtain ⟨hcw1, hfw1⟩ := bcell hbw1; (try simp only [World.size_drew, World.cell?_drew, World.frozen?_drew] at hcw1 hfw1); have hzw1 := hbw1.size; (try simp at hzw1); have : w.heap.size < w1.heap.size := (by omega); (try dsimp only)
          go_wp2_with fail; refine (HG.out _).mono ?_; rintro ew2 w2 ⟨rfl, hbw2⟩; obtain ⟨hcw2, hfw2⟩ := bcell hbw2; (try simp only [World.size_drew, World.cell?_drew, World.frozen?_drew] at hcw2 hfw2); have hzw2 := hbw2.size; (try simp at hzw2); have : w.heap.size < w2.heap.size := (by omega); (try dsimp only)
          go_wp2
          go_ret
          refine ⟨rfl, ?_⟩
          repeat (first | (with_reducible exact Below.refl _ _) | (with_reducible refine Below.drew ?_) | (refine Below.setCell ?_ (by first | exact Nat.le_refl _ | (simp; done) | (simp; omega) | omega) _) | (refine Below.alloc ?_ (by first | exact Nat.le_refl _ | (simp; done) | (simp; omega) | omega) _) | (refine Below.trans ?_ (Below.mono (by assumption) (by first | exact Nat.le_refl _ | (simp; done) | (simp; omega) | omega))))
      · have g1 : decide ((60 : Int) < (f : Int)) = true := by simp; omega
        clear hg hf
        go_enter Tryd.func7, Tryd.ntmps7
        go_wp2_with fail; refine (HA.out _).mono ?_; rintro ew1 w1 ⟨rfl, hbw1⟩; obtain ⟨hcw1, hfw1⟩ := bcell hbw1; (try simp only [World.size_drew, World.cell?_drew, World.frozen?_drew] at hcw1 hfw1); have hzw1 := hbw1.size; (try simp at hzw1); have : w.heap.size < w1.heap.size := (by omega); (try dsimp only)
        go_wp2_with fail; refine (HG.out _).mono ?_; rintro ew2 w2 ⟨rfl, hbw2⟩; obtain ⟨hcw2, hfw2⟩ := bcell hbw2; (try simp only [World.size_drew, World.cell?_drew, World.frozen?_drew] at hcw2 hfw2); have hzw2 := hbw2.size; (try simp at hzw2); have : w.heap.size < w2.heap.size := (by omega); (try dsimp only)
        go_wp2
        go_ret
        refine ⟨rfl, ?_⟩
        repeat (first | (with_reducible exact Below.refl _ _) | (with_reducible refine Below.drew ?_) | (refine Below.setCell ?_ (by first | exact Nat.le_refl _ | (simp; done) | (simp; omega) | omega) _) | (refine Below.alloc ?_ (by first | exact Nat.le_refl _ | (simp; done) | (simp; omega) | omega) _) | (refine Below.trans ?_ (Below.mono (by assumption) (by first | exact Nat.le_refl _ | (simp; done) | (simp; omega) | omega))))
    · clear hg
      go_enter Tryd.func7, Tryd.ntmps7
      go_wp2_with fail; refine (HA.out _).mono ?_; rintro ew1 w1 ⟨rfl, hbw1⟩; obtain ⟨hcw1, hfw1⟩ := bcell hbw1; (try simp only [World.size_drew, World.cell?_drew, World.frozen?_drew] at hcw1 hfw1); have hzw1 := hbw1.size; (try simp at hzw1); have : w.heap.size < w1.heap.size := (by omega); (try dsimp only)
      go_wp2_with fail; refine (HG.out _).mono ?_; rintro ew2 w2 ⟨rfl, hbw2⟩; obtain ⟨hcw2, hfw2⟩ := bcell hbw2; (try simp only [World.size_drew, World.cell?_drew, World.frozen?_drew] at hcw2 hfw2); have hzw2 := hbw2.size; (try simp at hzw2); have : w.heap.size < w2.heap.size := (by omega); (try dsimp only)
      go_wp2
      go_ret
      refine ⟨rfl, ?_⟩
      repeat (first | (with_reducible exact Below.refl _ _) | (with_reducible refine Below.drew ?_) | (refine Below.setCell ?_ (by first | exact Nat.le_refl _ | (simp; done) | (simp; omega) | omega) _) | (refine Below.alloc ?_ (by first | exact Nat.le_refl _ | (simp; done) | (simp; omega) | omega) _) | (refine Below.trans ?_ (Below.mono (by assumption) (by first | exact Nat.le_refl _ | (simp; done) | (simp; omega) | omega))))
theorem sums2_c (b : Bool) (m f : Nat) (_ : f < 256) (k : Nat) (_ : k < 256) (w : World) :
    Calls Tryd.prog 7 #[MV b m, .int .u8 (f : Int), .int .u8 (k : Int)] w fun e w' => e = .returned (.bool true) ∧ Below w.heap.size w w' := sums2_w b m f k w
end Go.Proofs.YtfecnogmjfmghaaDoor
