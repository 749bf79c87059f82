/- The contract of the reference's minus. -/
import Derived.Test.YtanfgolelhmdhaaRefE
namespace Go.Proofs.Ytanfgolelhmdhaa
set_option linter.unusedSimpArgs false
set_option linter.unusedVariables false
set_option linter.unnecessarySimpa false
open Go.RowKit

theorem minus_step (v p x da b a y db cb c' d : Nat) (h : v + p * (x + 10 * da) + b = a + p * (y + 10 * db + cb)) (hd : d + y + cb = x + 10 * c') :
    v + p * (d + 10 * 0) + p * 10 * da + b = a + p * 10 * (db + c') := by
  have e : p * d + p * y + p * cb = p * x + p * (10 * c') := by rw [← Nat.mul_add, ← Nat.mul_add, ← Nat.mul_add, hd]
  simp only [Nat.mul_add, Nat.mul_assoc, Nat.mul_zero, Nat.add_zero] at h e ⊢
  omega
set_option maxHeartbeats 4000000 in
theorem minus_any {A A' : Option Addr} {c c' a b : Nat} {w : World} (h : Ints w A c (dig a)) (h' : Ints w A' c' (dig b)) (hl : (dig a).length ≤ 900) (hl' : (dig b).length ≤ 900) (hab : b ≤ a) :
    Calls Try.prog 51 #[.slice A (dig a).length c, .slice A' (dig b).length c'] w (RetInts (a - b) w) := by
  obtain ⟨i0, hi0, hz0, hz1, hz2⟩ := info_parts int_info
  have Ha := dig_lt a
  have Hb := dig_lt b
  have Va : Hid (dval (dig a) = a) := dval_dig a
  have Vb : Hid (dval (dig b) = b) := dval_dig b
  have H := Lib.hid h; clear h
  have H' := Lib.hid h'; clear h'
  generalize dig a = la at *
  generalize dig b = lb at *
  go_enter Try.func51, Try.ntmps51
  go_wp2
  go_loopw [5, 6, 7] (fun out cc i wr => ∃ (k cb : Nat) (L : List Nat), k ≤ la.length ∧ i = .int .i64 k ∧ cc = .int .i64 cb ∧ cb ≤ 1 ∧ Digs L ∧ L.length = k ∧
      Hid (dval L + 10 ^ k * dval (la.drop k) + b = a + 10 ^ k * (dval (lb.drop k) + cb)) ∧ wr.ownsRow w.heap.size 3 1 out k (ivs L) ∧ Below w.heap.size w wr) (fun _ _ i _ => la.length - (intOf i).toNat)
  case atStart => exact ⟨0, 0, [], by omega, rfl, rfl, by omega, Digs.nil, rfl, by show _ = _; simp [dval, Va.out, Vb.out], World.ownsRow_nil _ _ _ _, Below.refl _ _⟩
  case round =>
    obtain ⟨k, cb, L, hk, rfl, rfl, hcb, hL, hLk, hV, hown, hB⟩ := hrel
    have hge : (0 : Int) ≤ (k : Int) := by omega
    by_cases h1 : k < la.length
    · have h1' : (k : Int) < (la.length : Int) := by omega
      by_cases h2 : k < lb.length
      · have h2' : (k : Int) < (lb.length : Int) := by omega
        obtain ⟨b1, off1, rfl, hbb1, hc1⟩ := H.out.at_ (by rintro rfl; simp at h1)
        have cell1 : wr.cell? ⟨b1, off1 + k, none⟩ = some (.int .i64 ((la.getD k 0 : Nat) : Int)) := (hB.cell (p := ⟨b1, off1 + k, none⟩) hbb1).trans (hc1 k h1)
        clear hc1
        obtain ⟨b2, off2, rfl, hbb2, hc2⟩ := H'.out.at_ (by rintro rfl; simp at h2)
        have cell2 : wr.cell? ⟨b2, off2 + k, none⟩ = some (.int .i64 ((lb.getD k 0 : Nat) : Int)) := (hB.cell (p := ⟨b2, off2 + k, none⟩) hbb2).trans (hc2 k h2)
        clear hc2
        have DA := Lib.hid (drop_any la k)
        have DB := Lib.hid (drop_any lb k)
        have hx := Ha.getD k
        have hy := Hb.getD k
        generalize la.getD k 0 = x at *
        generalize lb.getD k 0 = y at *
        by_cases h3 : x < cb + y
        · skip
          have n1 : (x : Int) - (cb : Int) - (y : Int) < 0 := by omega
          have n2 : (x : Int) - (cb : Int) < (y : Int) := by omega
          obtain ⟨d, hd⟩ : ∃ d : Nat, (x : Int) - (cb : Int) - (y : Int) + 10 = (d : Int) := ⟨((x : Int) - (cb : Int) - (y : Int) + 10).toNat, by omega⟩
          have HD := Lib.hid hd
          have hd10 : d < 10 := by omega
          have Hmx1 := Lib.hid (small_max (n := k + 1) (by omega)); have Hbs1 : Hid (w.heap.size ≤ wr.heap.size) := (by show _ ≤ _; have := hB.size; omega)
          have HN : Hid (dval (L ++ [d]) + 10 ^ (k + 1) * dval (la.drop (k + 1)) + b = a + 10 ^ (k + 1) * (dval (lb.drop (k + 1)) + 1)) := by
            show _ = _
            have := hV.out
            rw [DA.out, DB.out] at this
            rw [dval_append, hLk, Nat.pow_succ]
            simp only [dval]
            exact minus_step _ _ _ _ _ _ _ _ _ 1 _ this (by omega)
          clear hV DA DB hd
          have HL := hL.app (Digs.one hd10)
          go_wp2_with (at_builtin; refine wpList_append_own_at _ rfl (.tmp 35) (.tmp 37) _ rfl w.heap.size 3 i0 _ 1 8 Try.underlying33 hi0 hz0 hz1 hz2 rfl (by decide) (u5) (k) (ivs L) rfl (hown.alloc _) ⟨wr.heap.size, 0, none⟩ 1 1 [.int .i64 ((x : Int) - (cb : Int) - (y : Int) + 10)] rfl rfl (one_news wr _ _) (one_one _) Hmx1.out.1 Hmx1.out.2 (alloc_le Hbs1.out) ?_; intro v1 w1 hown1 hgrow1 _ hat1)
          have hB1 := own_below hB (by have := hB.size; omega) hown hgrow1
          rw [HD.out] at hown1
          go_roundw
          case rel => exact ⟨k + 1, 1, L ++ [d], by omega, by go_num, by go_num, by omega, HL, by simp [hLk], HN, by rw [ivs_append]; exact hown1, hB1⟩
          case measure => simp [intOf]; omega
        · skip
          have n1 : 0 ≤ (x : Int) - (cb : Int) - (y : Int) := by omega
          have n0 : decide ((x : Int) - (cb : Int) - (y : Int) < 0) = false := by simp; omega
          have n4 : decide ((x : Int) - (cb : Int) < (y : Int)) = false := by simp; omega
          have n2 : (y : Int) ≤ (x : Int) - (cb : Int) := by omega
          obtain ⟨d, hd⟩ : ∃ d : Nat, (x : Int) - (cb : Int) - (y : Int) = (d : Int) := ⟨((x : Int) - (cb : Int) - (y : Int)).toNat, by omega⟩
          have HD := Lib.hid hd
          have hd10 : d < 10 := by omega
          have Hmx1 := Lib.hid (small_max (n := k + 1) (by omega)); have Hbs1 : Hid (w.heap.size ≤ wr.heap.size) := (by show _ ≤ _; have := hB.size; omega)
          have HN : Hid (dval (L ++ [d]) + 10 ^ (k + 1) * dval (la.drop (k + 1)) + b = a + 10 ^ (k + 1) * (dval (lb.drop (k + 1)) + 0)) := by
            show _ = _
            have := hV.out
            rw [DA.out, DB.out] at this
            rw [dval_append, hLk, Nat.pow_succ]
            simp only [dval]
            exact minus_step _ _ _ _ _ _ _ _ _ 0 _ this (by omega)
          clear hV DA DB hd
          have HL := hL.app (Digs.one hd10)
          go_wp2_with (at_builtin; refine wpList_append_own_at _ rfl (.tmp 35) (.tmp 37) _ rfl w.heap.size 3 i0 _ 1 8 Try.underlying33 hi0 hz0 hz1 hz2 rfl (by decide) (u5) (k) (ivs L) rfl (hown.alloc _) ⟨wr.heap.size, 0, none⟩ 1 1 [.int .i64 ((x : Int) - (cb : Int) - (y : Int))] rfl rfl (one_news wr _ _) (one_one _) Hmx1.out.1 Hmx1.out.2 (alloc_le Hbs1.out) ?_; intro v1 w1 hown1 hgrow1 _ hat1)
          have hB1 := own_below hB (by have := hB.size; omega) hown hgrow1
          rw [HD.out] at hown1
          go_roundw
          case rel => exact ⟨k + 1, 0, L ++ [d], by omega, by go_num, by go_num, by omega, HL, by simp [hLk], HN, by rw [ivs_append]; exact hown1, hB1⟩
          case measure => simp [intOf]; omega
      · have h2' : (lb.length : Int) ≤ (k : Int) := by omega
        have h2n : lb.length ≤ k := by omega
        obtain ⟨b1, off1, rfl, hbb1, hc1⟩ := H.out.at_ (by rintro rfl; simp at h1)
        have cell1 : wr.cell? ⟨b1, off1 + k, none⟩ = some (.int .i64 ((la.getD k 0 : Nat) : Int)) := (hB.cell (p := ⟨b1, off1 + k, none⟩) hbb1).trans (hc1 k h1)
        clear hc1
        have DA := Lib.hid (drop_any la k)
        have DB := Lib.hid (drop_any lb k)
        have hx := Ha.getD k
        have hy := Hb.getD k
        rw [getD_out (l := lb) (by omega)] at DB hy
        generalize la.getD k 0 = x at *
        by_cases h3 : x < cb
        · skip
          have n1 : (x : Int) - (cb : Int) < 0 := by omega
          have n2 : (x : Int) < (cb : Int) := by omega
          have n3 : x < cb := by omega
          obtain ⟨d, hd⟩ : ∃ d : Nat, (x : Int) - (cb : Int) + 10 = (d : Int) := ⟨((x : Int) - (cb : Int) + 10).toNat, by omega⟩
          have HD := Lib.hid hd
          have hd10 : d < 10 := by omega
          have Hmx1 := Lib.hid (small_max (n := k + 1) (by omega)); have Hbs1 : Hid (w.heap.size ≤ wr.heap.size) := (by show _ ≤ _; have := hB.size; omega)
          have HN : Hid (dval (L ++ [d]) + 10 ^ (k + 1) * dval (la.drop (k + 1)) + b = a + 10 ^ (k + 1) * (dval (lb.drop (k + 1)) + 1)) := by
            show _ = _
            have := hV.out
            rw [DA.out, DB.out] at this
            rw [dval_append, hLk, Nat.pow_succ]
            simp only [dval]
            exact minus_step _ _ _ _ _ _ _ _ _ 1 _ this (by omega)
          clear hV DA DB hd
          have HL := hL.app (Digs.one hd10)
          go_wp2_with (at_builtin; refine wpList_append_own_at _ rfl (.tmp 35) (.tmp 37) _ rfl w.heap.size 3 i0 _ 1 8 Try.underlying33 hi0 hz0 hz1 hz2 rfl (by decide) (u5) (k) (ivs L) rfl (hown.alloc _) ⟨wr.heap.size, 0, none⟩ 1 1 [.int .i64 ((x : Int) - (cb : Int) + 10)] rfl rfl (one_news wr _ _) (one_one _) Hmx1.out.1 Hmx1.out.2 (alloc_le Hbs1.out) ?_; intro v1 w1 hown1 hgrow1 _ hat1)
          have hB1 := own_below hB (by have := hB.size; omega) hown hgrow1
          rw [HD.out] at hown1
          go_roundw
          case rel => exact ⟨k + 1, 1, L ++ [d], by omega, by go_num, by go_num, by omega, HL, by simp [hLk], HN, by rw [ivs_append]; exact hown1, hB1⟩
          case measure => simp [intOf]; omega
        · skip
          have n1 : 0 ≤ (x : Int) - (cb : Int) := by omega
          have n0 : decide ((x : Int) - (cb : Int) < 0) = false := by simp; omega
          have n4 : decide (x < cb) = false := by simp; omega
          have n2 : (cb : Int) ≤ (x : Int) := by omega
          have n3 : cb ≤ x := by omega
          obtain ⟨d, hd⟩ : ∃ d : Nat, (x : Int) - (cb : Int) = (d : Int) := ⟨((x : Int) - (cb : Int)).toNat, by omega⟩
          have HD := Lib.hid hd
          have hd10 : d < 10 := by omega
          have Hmx1 := Lib.hid (small_max (n := k + 1) (by omega)); have Hbs1 : Hid (w.heap.size ≤ wr.heap.size) := (by show _ ≤ _; have := hB.size; omega)
          have HN : Hid (dval (L ++ [d]) + 10 ^ (k + 1) * dval (la.drop (k + 1)) + b = a + 10 ^ (k + 1) * (dval (lb.drop (k + 1)) + 0)) := by
            show _ = _
            have := hV.out
            rw [DA.out, DB.out] at this
            rw [dval_append, hLk, Nat.pow_succ]
            simp only [dval]
            exact minus_step _ _ _ _ _ _ _ _ _ 0 _ this (by omega)
          clear hV DA DB hd
          have HL := hL.app (Digs.one hd10)
          go_wp2_with (at_builtin; refine wpList_append_own_at _ rfl (.tmp 35) (.tmp 37) _ rfl w.heap.size 3 i0 _ 1 8 Try.underlying33 hi0 hz0 hz1 hz2 rfl (by decide) (u5) (k) (ivs L) rfl (hown.alloc _) ⟨wr.heap.size, 0, none⟩ 1 1 [.int .i64 ((x : Int) - (cb : Int))] rfl rfl (one_news wr _ _) (one_one _) Hmx1.out.1 Hmx1.out.2 (alloc_le Hbs1.out) ?_; intro v1 w1 hown1 hgrow1 _ hat1)
          have hB1 := own_below hB (by have := hB.size; omega) hown hgrow1
          rw [HD.out] at hown1
          go_roundw
          case rel => exact ⟨k + 1, 0, L ++ [d], by omega, by go_num, by go_num, by omega, HL, by simp [hLk], HN, by rw [ivs_append]; exact hown1, hB1⟩
          case measure => simp [intOf]; omega
    · have h1' : (la.length : Int) ≤ (k : Int) := by omega
      have h1n : la.length ≤ k := by omega
      have HT : Hid (dval L = a - b) := by
        show _ = _
        have h := hV.out
        rw [List.drop_of_length_le h1n] at h
        simp only [dval, Nat.mul_zero, Nat.add_zero] at h
        have h2 := dval_lt hL
        rw [hLk] at h2
        rcases Nat.eq_zero_or_pos (dval (lb.drop k) + cb) with h3 | h3
        · rw [h3] at h; omega
        · have : 10 ^ k * 1 ≤ 10 ^ k * (dval (lb.drop k) + cb) := Nat.mul_le_mul_left _ h3
          omega
      obtain ⟨Ao, co, rfl, hI⟩ := Ints.of_own hown
      have C := Lib.hid (fun W (hW : Ints W Ao co L) => cut_any hW (by omega) hL)
      rw [HT.out] at C
      clear hV hown
      go_wp2_with fail
      rw [show (k : Nat) = L.length from hLk.symm] at *
      refine (C.out _ hI).mono ?_
      rintro e w1 ⟨A1, c1, rfl, hI1, hb1⟩
      go_wp2
      go_ret
      exact ⟨A1, c1, rfl, hI1, below_on hB hb1⟩
end Go.Proofs.Ytanfgolelhmdhaa
