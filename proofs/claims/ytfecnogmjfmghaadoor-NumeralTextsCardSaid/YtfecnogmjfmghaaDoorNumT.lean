/- The contract of the document's own Text. -/
import Derived.Test.YtfecnogmjfmghaaDoorNumS
import Derived.Test.YtfecnogmjfmghaaDoorRefD
namespace Go.Proofs.YtfecnogmjfmghaaDoor
set_option linter.unusedSimpArgs false
set_option linter.unusedVariables false
set_option linter.unnecessarySimpa false
open Go.RowKit

theorem run_bd {d : Nat} (hd : d < 10) (w : World) : (convert 22 9 (.slice (some ⟨w.heap.size, 0, none⟩) 1 1)).run Tryd.prog (w.alloc (.cells #[.int .u8 (48 + (d : Int))] 5)) = .ok (.string (S8 [bD d])) (w.alloc (.cells #[.int .u8 (48 + (d : Int))] 5)) := by
  have h := (Own8.new w [bD d] 5 (by simp [maxLen])).bs
  have e : (bvs [bD d]).toArray = #[.int .u8 (48 + (d : Int))] := by
    unfold bvs bv; simp only [List.map_cons, List.map_nil]; rw [bD_nat hd]; rfl
  rw [e] at h
  exact run_str h
theorem ints_at {w : World} {A : Option Addr} {c : Nat} {L : List Nat} (h : Ints w A c L) {k : Nat} (hk : k < L.length) : ∃ b off, A = some ⟨b, off, none⟩ ∧ b < w.heap.size ∧ w.cell? ⟨b, off + k, none⟩ = some (.int .i64 ((L.getD k 0 : Nat) : Int)) := by
  obtain ⟨b, off, e, hb, hc⟩ := h.at_ (by rintro rfl; simp at hk)
  exact ⟨b, off, e, hb, hc k hk⟩

set_option maxRecDepth 100000 in
set_option maxHeartbeats 8000000 in
theorem rtext_core (b : Bool) (m : Nat) (hg : goodB b m = true) (hm : m < 340282366920938463463374607431768211456) (w : World) :
    Calls Tryd.prog 19 #[MV b m] w fun e w' => e = .returned (.string (S8 (textL b m))) ∧ Below w.heap.size w w' := by
  obtain ⟨i0, hi0, hz0, hz1, hz2⟩ := info_parts int_info
  have hmt : m < topN := by unfold goodB at hg; simp at hg; exact hg.1
  have HG : Hid (∀ w, Calls Tryd.prog 39 #[MV b m] w fun e w' => e = .returned (.bool true) ∧ Below w.heap.size w w') := by
    intro w
    have := rgood_any b m hm w
    rwa [hg] at this
  have HO : Hid (∀ w, Calls Tryd.prog 17 #[MV b m] w (RetNum b m w)) := of_any b m hm
  have HX : Hid (textL b m = (if b then [45] else []) ++ ((((pd m).drop 6).map bD).reverse ++ (if fnz ((pd m).take 6) = 6 then [] else [46] ++ ((((pd m).take 6).drop (fnz ((pd m).take 6))).map bD).reverse))) := by
    have hD : Digs ((pd m).take 6) := (pd_digs m).take 6
    have h6 : ((pd m).take 6).length = 6 := by rw [List.length_take, pd_len]; split <;> omega
    have hle := fnz_le ((pd m).take 6)
    show _ = _
    rw [text_eq hg, who_pd hmt, fra_pd, lead_fnz _ hD]
    congr 2
    by_cases h0 : fnz ((pd m).take 6) = 6
    · rw [if_pos h0, h0, List.drop_of_length_le (by omega)]; rfl
    · rw [if_neg h0, if_neg]
      intro h1
      have := congrArg List.length h1
      simp at this
      rw [pd_len] at this
      split at this <;> omega
  have hD := pd_digs m
  have hl7 : 7 ≤ (pd m).length := by rw [pd_len]; split <;> omega
  have hl0 : (dig m).length ≤ 36 := dig_len_le (by rw [topN_eq] at hmt; omega)
  have hl36 : (pd m).length ≤ 36 := by rw [pd_len]; split <;> omega
  have HPD : Hid (pd m = dig m ++ List.replicate (7 - (dig m).length) 0) := rfl
  clear hg hm hmt
  generalize textL b m = TT at *
  generalize pd m = L at *
  go_enter Tryd.func19, Tryd.ntmps19
  go_wp2_with fail; refine (HG.out _).mono ?_; rintro ew1 w1 ⟨rfl, hbw1⟩; obtain ⟨hcw1, hfw1⟩ := bcell hbw1; (try simp only [World.size_drew, World.cell?_drew, World.frozen?_drew] at hcw1 hfw1); have hzw1 := hbw1.size; (try simp at hzw1); have : w.heap.size < w1.heap.size := (by omega); (try dsimp only)
  go_wp2_with fail
  refine (HO.out _).mono ?_
  rintro e w2 ⟨vv, rfl, ⟨A, c, rfl, hI⟩, hb2⟩
  have hB2 : Below w.heap.size w w2 := by repeat (first | (with_reducible exact Below.refl _ _) | (with_reducible refine Below.drew ?_) | (refine Below.setCell ?_ (by first | exact Nat.le_refl _ | (simp; done) | (simp; omega) | omega) _) | (refine Below.alloc ?_ (by first | exact Nat.le_refl _ | (simp; done) | (simp; omega) | omega) _) | (refine Below.trans ?_ (Below.mono (by assumption) (by first | exact Nat.le_refl _ | (simp; done) | (simp; omega) | omega))))
  have HI := Lib.hid hI
  generalize dig m = l0 at *
  clear hcw1 hfw1 hI hb2 hbw1 hzw1
  go_upto_region 5 with fail
  have r0 : Row (w2.alloc (.cells #[.bool b, .slice A l0.length c] 33)) w2.heap.size 33 #[.bool b, .slice A l0.length c] := Row.new w2 _ _
  have HI3 : Hid (Ints (w2.alloc (.cells #[.bool b, .slice A l0.length c] 33)) A c l0) := HI.out.on ((Below.refl _ _).alloc (Nat.le_refl _) _)
  have hB3 : Below w.heap.size w (w2.alloc (.cells #[.bool b, .slice A l0.length c] 33)) := hB2.alloc hB2.size _
  have HV : Hid (∃ q, (w2.alloc (.cells #[.bool b, .slice A l0.length c] 33)).cell? ⟨w2.heap.size, 0, none⟩ = some (.bool b) ∧ w2.heap.size < (w2.alloc (.cells #[.bool b, .slice A l0.length c] 33)).heap.size ∧ q = 0) := ⟨0, r0.cell 0, r0.lt, rfl⟩
  clear HI hB2 r0
  generalize w2.heap.size = nb at *
  generalize w2.alloc (.cells #[.bool b, .slice A l0.length c] 33) = w3 at *
  obtain ⟨_, hc0, hnb, _⟩ := HV.out
  have HB3 := Lib.hid hB3
  have Hc0 := Lib.hid hc0
  have Hnb := Lib.hid hnb
  clear hB3 HV hc0 hnb
  go_loopw [4] (fun d wr => ∃ (j : Nat) (A' : Option Addr) (c' : Nat), (l0.length + j ≤ 7 ∨ j = 0) ∧ d = .slice A' (l0 ++ List.replicate j 0).length c' ∧ Ints wr A' c' (l0 ++ List.replicate j 0) ∧ Below w3.heap.size w3 wr) (fun d _ => 7 - lenV d)
  case atStart => exact ⟨0, A, c, Or.inr rfl, by simp, by simpa using HI3.out, Below.refl _ _⟩
  case round =>
    obtain ⟨j, A', c', hj, rfl, hI, hB⟩ := hrel
    by_cases h7 : l0.length + j < 7
    · have hlen : (l0 ++ List.replicate j 0).length = l0.length + j := by simp
      have t0 : decide ((((l0 ++ List.replicate j 0).length : Nat) : Int) < 7) = true := decide_eq_true (by rw [hlen]; omega)
      have HS : Hid (l0 ++ List.replicate j 0 ++ [0] = l0 ++ List.replicate (j + 1) 0) := by show _ = _; rw [List.replicate_succ']; simp
      have HJ : Hid (l0.length + j < 7) := h7
      have HLN : Hid ((l0 ++ List.replicate j 0).length ≤ 7) := by show _ ≤ _; omega
      have O : Hid ((wr.alloc (.cells #[] 3)).ownsRow wr.heap.size 3 1 (.slice (some ⟨wr.heap.size, 0, none⟩) 0 0) 0 (ivs [])) := World.ownsRow_made (e := 3) (size := 1) wr #[] 0 (Nat.le_refl wr.heap.size) (by simp [maxLen]) rfl
      have U : Hid (Ints (wr.alloc (.cells #[] 3)) A' c' (l0 ++ List.replicate j 0)) := hI.on ((Below.refl _ _).alloc (Nat.le_refl _) _)
      clear h7 hj hlen hI
      generalize l0 ++ List.replicate j 0 = M at *
      have m1 : Hid (0 + M.length ≤ 100000) := by have := HLN.out; show _ ≤ _; omega
      have m2 : Hid (wr.heap.size ≤ (wr.alloc (.cells #[] 3)).heap.size) := by show _ ≤ _; simp
      have m3 := Lib.hid (small_max (n := 0 + M.length + 1) (by have := HLN.out; omega))
      go_wp2_with (first | (refine wpList_app_ints _ rfl (.tmp 19) (.tmp 20) 31 rfl wr.heap.size i0 Tryd.underlying31 hi0 hz0 hz1 hz2 (.slice (some ⟨wr.heap.size, 0, none⟩) 0 0) 0 [] rfl O.out A' c' M rfl U.out m1.out m2.out ?_; intro v5 w5 own5 grow5) | (refine wpList_append_own_at _ rfl (.tmp 21) (.tmp 22) _ rfl wr.heap.size 3 i0 _ 1 8 Tryd.underlying31 hi0 hz0 hz1 hz2 rfl (by decide) v5 (0 + M.length) (ivs ([] ++ M)) rfl (own5.alloc _) ⟨w5.heap.size, 0, none⟩ 1 1 [.int .i64 0] rfl rfl (one_news w5 _ _) (one_one _) m3.out.1 m3.out.2 (Nat.le_trans (Nat.le_trans m2.out grow5.size) (by simp)) ?_; intro v6 w6 own6 grow6 _ hat6))
      have hB5 : Below wr.heap.size wr w5 := ((Below.refl _ _).alloc (Nat.le_refl _) _).grown grow5 m2.out (fun k hk => by simp [Value.ownBlock] at hk; omega)
      have hB6 : Below wr.heap.size wr w6 := own_below hB5 hB5.size own5 grow6
      have hI6 : ∃ A6 c6, v6 = .slice A6 (M ++ [0]).length c6 ∧ Ints w6 A6 c6 (M ++ [0]) := by
        have e : ivs ([] ++ M) ++ [Value.int .i64 0] = ivs (M ++ [0]) := by rw [List.nil_append, ivs_append]; rfl
        rw [e] at own6
        exact Ints.of_own own6
      obtain ⟨A6, c6, rfl, hI6⟩ := hI6
      go_roundw
      case rel => exact ⟨j + 1, A6, c6, Or.inl (by have := HJ.out; omega), by rw [← HS.out], by rw [← HS.out]; exact hI6, hB.trans (hB6.mono hB.size)⟩
      case measure => have := HLN.out; have h1 := congrArg List.length HS.out; have := HJ.out; simp [lenV] at h1 ⊢; omega
    · have hL : l0 ++ List.replicate j 0 = L := by rw [HPD.out]; congr 2; omega
      rw [hL] at hI
      rw [hL]
      obtain ⟨wq, hwq⟩ : ∃ q, q = wr := ⟨_, rfl⟩
      subst hwq
      have t0 : decide (((L.length : Nat) : Int) < 7) = false := decide_eq_false (by omega)
      have HIr := Lib.hid hI
      have HBr := Lib.hid hB
      clear hI hB hL hj h7 HI3 HPD
      go_wp2
      go_loopw [5, 6] (fun q i wr => ∃ k : Nat, 6 ≤ k ∧ k ≤ L.length ∧ i = .int .i64 (k : Int) ∧ q = .string (S8 (((L.take k).drop 6).map bD).reverse) ∧ Below wq.heap.size wq wr) (fun _ i _ => L.length - (intOf i).toNat)
      case atStart => exact ⟨6, Nat.le_refl _, by omega, rfl, by rw [List.drop_of_length_le (by rw [List.length_take]; omega)]; rfl, Below.refl _ _⟩
      case round =>
        obtain ⟨k, hk6, hk, rfl, rfl, hB4⟩ := hrel
        by_cases hlt : k < L.length
        · obtain ⟨bb, off, rfl, hbb, hcell⟩ := ints_at (HIr.out.on hB4) hlt
          have hx := hD.getD k
          have hlt' : (k : Int) < (L.length : Int) := by omega
          have hge : (0 : Int) ≤ (k : Int) := by omega
          have hcv := run_bd hx
          have a1 : ∀ W, (Op.stringOp .add (S8 [bD (L.getD k 0)]) (S8 (((L.take k).drop 6).map bD).reverse)).run Tryd.prog W = .ok (.string (S8 (((L.take (k + 1)).drop 6).map bD).reverse)) W := by
            intro W
            have := s8_add [bD (L.getD k 0)] (((L.take k).drop 6).map bD).reverse (by simp; omega) W
            have e : [bD (L.getD k 0)] ++ (((L.take k).drop 6).map bD).reverse = (((L.take (k + 1)).drop 6).map bD).reverse := by
              rw [take_succ_getD L hlt, List.drop_append_of_le_length (by rw [List.length_take]; omega), List.map_append, List.reverse_append]; rfl
            rw [e] at this
            exact this
          have d0 : (0 : Int) ≤ ((L.getD k 0 : Nat) : Int) := by omega
          have d1 : ((L.getD k 0 : Nat) : Int) < 10 := by omega
          have HBn := Lib.hid (fun o => hB4.alloc hB4.size o)
          clear hB4 hx
          obtain ⟨sn, hsn⟩ : ∃ sn, sn = S8 (((L.take (k + 1)).drop 6).map bD).reverse := ⟨_, rfl⟩
          rw [← hsn] at a1
          have HSN := Lib.hid hsn
          clear hsn
          generalize S8 (((L.take k).drop 6).map bD).reverse = so at *
          generalize hx : L.getD k 0 = x at *
          clear hx
          generalize S8 [bD x] = sd at *
          go_wp2
          go_roundw
          case rel => exact ⟨k + 1, by omega, by omega, by go_num, by rw [HSN.out], HBn.out _⟩
          case measure => simp [intOf]; omega
        · obtain rfl : k = L.length := by omega
          rw [List.take_of_length_le (Nat.le_refl _)]
          have HI4 : Hid (Ints wr A' c' L) := HIr.out.on hB4
          have HB4 : Hid (Below w.heap.size w wr) := (HB3.out.trans (HBr.out.mono HB3.out.size)).trans (hB4.mono (Nat.le_trans HB3.out.size HBr.out.size))
          have c4 : wr.cell? ⟨nb, 0, none⟩ = some (.bool b) := (hB4.cell (p := ⟨nb, 0, none⟩) (Nat.lt_of_lt_of_le Hnb.out HBr.out.size)).trans ((HBr.out.cell (p := ⟨nb, 0, none⟩) Hnb.out).trans Hc0.out)
          have hnb4 : nb < wr.heap.size := Nat.lt_of_lt_of_le (Nat.lt_of_lt_of_le Hnb.out HBr.out.size) hB4.size
          have Hc4 := Lib.hid c4
          have Hnb4 := Lib.hid hnb4
          have HWl : Hid (((L.drop 6).map bD).reverse.length ≤ 36) := by show _ ≤ _; simp; omega
          have HF6 : Hid ((L.take 6).length = 6) := by show _ = _; rw [List.length_take]; omega
          have HG6 : Hid (∀ k, k < 6 → (L.take 6).getD k 0 = L.getD k 0) := fun k hk => take_getD L hk
          have HD6 : Hid (Digs (L.take 6)) := hD.take 6
          clear hB4 c4 hnb4 hlt hk hk6 HBr HIr Hc0 Hnb HB3
          generalize ((L.drop 6).map bD).reverse = WW at *
          generalize L.take 6 = L6 at *
          go_wp2
          go_loop [7] (fun i => ∃ k : Nat, k ≤ 6 ∧ i = .int .i64 (k : Int) ∧ Hid (fnz L6 = k + fnz (L6.drop k))) (fun i => 6 - (intOf i).toNat)
          case atStart => exact ⟨0, by omega, rfl, by show _ = _; simp⟩
          case round =>
            obtain ⟨k, hk, rfl, hz⟩ := hrel
            by_cases hlt : k < 6
            · obtain ⟨bb, off, rfl, hbb, hcell⟩ := ints_at HI4.out (show k < L.length by omega)
              have hst := fnz_step (l := L6) (k := k) (by rw [HF6.out]; exact hlt) hz.out
              rw [HG6.out k hlt] at hst
              have t1 : decide ((k : Int) < 6) = true := decide_eq_true (by omega)
              have hge : (0 : Int) ≤ (k : Int) := by omega
              have hlt' : (k : Int) < (L.length : Int) := by omega
              have hx := hD.getD k
              by_cases h0 : L.getD k 0 = 0
              · have hz' := Lib.hid (hst.1 h0)
                have t2 : (((L.getD k 0 : Nat) : Int) == 0) = true := by rw [h0]; rfl
                clear hst hz h0 hx
                generalize L.getD k 0 = x at *
                go_wp2
                go_round
                case rel => exact ⟨k + 1, by omega, by go_num, hz'.out⟩
                case measure => simp [intOf]; omega
              · have HZ := Lib.hid (hst.2 h0)
                have t2 : (((L.getD k 0 : Nat) : Int) == 0) = false := by rw [beq_eq_false_iff_ne]; omega
                clear hst hz h0 hx
                generalize L.getD k 0 = x at *
                obtain ⟨w5, hw5⟩ : ∃ q, q = wr := ⟨_, rfl⟩
                subst hw5
                have a0 : ∀ W, (Op.stringOp .add (S8 WW) ⟨#[46]⟩).run Tryd.prog W = .ok (.string (S8 (WW ++ [46]))) W := s8_add WW [46] (by have := HWl.out; simp only [List.length_cons, List.length_nil]; omega)
                obtain ⟨s1, hs1⟩ : ∃ s1, s1 = S8 (WW ++ [46]) := ⟨_, rfl⟩
                rw [← hs1] at a0
                have HS1 := Lib.hid hs1
                clear hs1 hk
                go_upto_region 17 with fail
                clear a0
                go_wp2
                go_loopw [5, 8] (fun q i wr => ∃ j : Nat, k ≤ j ∧ j ≤ 6 ∧ i = .int .i64 ((j : Int) - 1) ∧ q = .string (S8 ((WW ++ [46]) ++ ((L6.drop j).map bD).reverse)) ∧ Below w5.heap.size w5 wr) (fun _ i _ => (intOf i + 1).toNat)
                case atStart => exact ⟨6, by omega, Nat.le_refl _, rfl, by rw [List.drop_of_length_le (by rw [HF6.out]; exact Nat.le_refl _), HS1.out]; simp, Below.refl _ _⟩
                case round =>
                  obtain ⟨j, hkj, hj, rfl, rfl, hB5⟩ := hrel
                  by_cases hjk : k < j
                  · obtain ⟨q, rfl⟩ : ∃ q, j = q + 1 := ⟨j - 1, by omega⟩
                    obtain ⟨bb2, off2, e2, hbb2, hcell2⟩ := ints_at (HI4.out.on hB5) (show q < L.length by omega)
                    cases e2
                    have hx := hD.getD q
                    have hlt2 : (q : Int) < (L.length : Int) := by omega
                    have hge2 : (0 : Int) ≤ (q : Int) := by omega
                    have t3 : decide (k ≤ q) = true := decide_eq_true (by omega)
                    have t3' : decide ((k : Int) ≤ (q : Int)) = true := decide_eq_true (by omega)
                    have hcv := run_bd hx
                    have HQ6 : Hid (q < 6) := by show q < 6; omega
                    have a1 : ∀ W, (Op.stringOp .add (S8 ((WW ++ [46]) ++ ((L6.drop (q + 1)).map bD).reverse)) (S8 [bD (L.getD q 0)])).run Tryd.prog W = .ok (.string (S8 ((WW ++ [46]) ++ ((L6.drop q).map bD).reverse))) W := by
                      intro W
                      have hl6 : ((L6.drop (q + 1)).map bD).reverse.length ≤ 6 := by rw [List.length_reverse, List.length_map, List.length_drop, HF6.out]; omega
                      have := s8_add ((WW ++ [46]) ++ ((L6.drop (q + 1)).map bD).reverse) [bD (L.getD q 0)] (by have := HWl.out; rw [List.length_append, List.length_append]; simp only [List.length_cons, List.length_nil]; omega) W
                      have e : ((WW ++ [46]) ++ ((L6.drop (q + 1)).map bD).reverse) ++ [bD (L.getD q 0)] = (WW ++ [46]) ++ ((L6.drop q).map bD).reverse := by
                        rw [drop_getD L6 (k := q) (by rw [HF6.out]; exact HQ6.out), HG6.out q HQ6.out, List.map_cons, List.reverse_cons, List.append_assoc]
                      rw [e] at this
                      exact this
                    have d0 : (0 : Int) ≤ ((L.getD q 0 : Nat) : Int) := by omega
                    have d1 : ((L.getD q 0 : Nat) : Int) < 10 := by omega
                    have HBn := Lib.hid (fun o => hB5.alloc hB5.size o)
                    have HKJ : Hid (k ≤ q) := by show k ≤ q; omega
                    clear hB5 hx hjk hkj hj
                    obtain ⟨sn, hsn⟩ : ∃ sn, sn = S8 ((WW ++ [46]) ++ ((L6.drop q).map bD).reverse) := ⟨_, rfl⟩
                    rw [← hsn] at a1
                    have HSN := Lib.hid hsn
                    clear hsn
                    generalize S8 ((WW ++ [46]) ++ ((L6.drop (q + 1)).map bD).reverse) = so at *
                    generalize L.getD q 0 = x2 at *
                    generalize S8 [bD x2] = sd at *
                    go_wp2
                    go_roundw
                    case rel => exact ⟨q, HKJ.out, by have := HQ6.out; omega, by go_num, by rw [HSN.out], HBn.out _⟩
                    case measure => simp [intOf]
                  · obtain rfl : j = k := by omega
                    have tq : decide ((j : Int) ≤ (j : Int) - 1) = false := decide_eq_false (by omega)
                    have hne : ¬ j = 6 := by omega
                    have HT0 : Hid (TT = (if b then [45] else []) ++ ((WW ++ [46]) ++ ((L6.drop j).map bD).reverse)) := by
                      show _ = _
                      rw [HX.out, HZ.out, if_neg hne]; simp
                    have HBF : Hid (Below w.heap.size w wr) := HB4.out.trans (hB5.mono HB4.out.size)
                    have c4 : wr.cell? ⟨nb, 0, none⟩ = some (.bool b) := (hB5.cell (p := ⟨nb, 0, none⟩) Hnb4.out).trans Hc4.out
                    have hnb4 : nb < wr.heap.size := Nat.lt_of_lt_of_le Hnb4.out hB5.size
                    have HLn : Hid (((WW ++ [46]) ++ ((L6.drop j).map bD).reverse).length ≤ 100) := by
                      have := HWl.out
                      show _ ≤ _
                      rw [List.length_append, List.length_append, List.length_reverse, List.length_map, List.length_drop, HF6.out]
                      simp only [List.length_cons, List.length_nil]; omega
                    clear hB5 hjk hkj hj HX HZ hD hbb hcell hlt hlt' hge t1 t2 hne
                    generalize (WW ++ [46]) ++ ((L6.drop j).map bD).reverse = FF at *
                    cases b
                    · have HE : Hid (S8 TT = S8 FF) := by show _ = _; rw [HT0.out]; rfl
                      go_wp2
                      go_ret
                      exact ⟨by rw [HE.out]; rfl, HBF.out⟩
                    · have a1 : ∀ W, (Op.stringOp .add ⟨#[45]⟩ (S8 FF)).run Tryd.prog W = .ok (.string (S8 TT)) W := by
                        intro W
                        rw [HT0.out]
                        exact s8_add [45] FF (by have := HLn.out; simp only [List.length_cons, List.length_nil]; omega) W
                      generalize S8 FF = sw at *
                      go_wp2
                      go_ret
                      exact ⟨rfl, HBF.out⟩
            · obtain rfl : k = 6 := by omega
              have HZ : Hid (fnz L6 = 6) := by show _ = _; rw [hz.out, List.drop_of_length_le (by rw [HF6.out]; exact Nat.le_refl _)]; rfl
              clear hz hlt hk
              have HT0 : Hid (TT = (if b then [45] else []) ++ WW) := by show _ = _; rw [HX.out, HZ.out]; simp
              have c4 := Hc4.out
              have hnb4 := Hnb4.out
              clear HX HZ hD
              cases b
              · have HE : Hid (S8 TT = S8 WW) := by show _ = _; rw [HT0.out]; rfl
                go_wp2
                go_ret
                exact ⟨by rw [HE.out]; rfl, HB4.out⟩
              · have a1 : ∀ W, (Op.stringOp .add ⟨#[45]⟩ (S8 WW)).run Tryd.prog W = .ok (.string (S8 TT)) W := by
                  intro W
                  rw [HT0.out]
                  exact s8_add [45] WW (by have := HWl.out; simp only [List.length_cons, List.length_nil]; omega) W
                generalize S8 WW = sw at *
                go_wp2
                go_ret
                exact ⟨rfl, HB4.out⟩
end Go.Proofs.YtfecnogmjfmghaaDoor
