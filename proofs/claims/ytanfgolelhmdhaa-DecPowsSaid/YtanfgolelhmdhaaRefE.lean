/- The contract of the reference's plus. -/
import Derived.Test.YtanfgolelhmdhaaRefC
namespace Go.Proofs.Ytanfgolelhmdhaa
set_option linter.unusedSimpArgs false
set_option linter.unusedVariables false
set_option linter.unnecessarySimpa false
open Go.RowKit

theorem drop_any (l : List Nat) (k : Nat) : dval (l.drop k) = l.getD k 0 + 10 * dval (l.drop (k + 1)) := by
  rcases Nat.lt_or_ge k l.length with h | h
  · rw [drop_getD l h]; rfl
  · rw [List.drop_of_length_le h, List.drop_of_length_le (by omega), List.getD_eq_getElem?_getD, List.getElem?_eq_none h]; rfl
theorem getD_out {l : List Nat} {k : Nat} (h : l.length ≤ k) : l.getD k 0 = 0 := by
  rw [List.getD_eq_getElem?_getD, List.getElem?_eq_none h]; rfl
theorem plus_step (v p x y da db cb s : Nat) (hs : s = cb + x + y) : v + p * (s % 10 + 10 * 0) + p * 10 * (da + db + s / 10) = v + p * (x + 10 * da + (y + 10 * db) + cb) := by
  rw [Nat.mul_assoc, Nat.add_assoc, ← Nat.mul_add]; congr 2; omega
/-- A slice made by the callee. -/
def RetInts (m : Nat) (w : World) (e : Ending) (w' : World) : Prop := ∃ A c, e = .returned (.slice A (dig m).length c) ∧ Ints w' A c (dig m) ∧ Below w.heap.size w w'

set_option maxHeartbeats 4000000 in
theorem plus_any {A A' : Option Addr} {c c' a b : Nat} {w : World} (h : Ints w A c (dig a)) (h' : Ints w A' c' (dig b)) (hl : (dig a).length ≤ 900) (hl' : (dig b).length ≤ 900) :
    Calls Try.prog 49 #[.slice A (dig a).length c, .slice A' (dig b).length c'] w (RetInts (a + b) w) := by
  obtain ⟨i0, hi0, hz0, hz1, hz2⟩ := info_parts int_info
  have Ha := dig_lt a
  have Hb := dig_lt b
  have Va : Hid (dval (dig a) = a) := dval_dig a
  have Vb : Hid (dval (dig b) = b) := dval_dig b
  have H := Lib.hid h; clear h
  have H' := Lib.hid h'; clear h'
  generalize dig a = la at *
  generalize dig b = lb at *
  go_enter Try.func49, Try.ntmps49
  go_wp2
  go_loopw [5, 6, 7] (fun out cc i wr => ∃ (k cb : Nat) (L : List Nat), i = .int .i64 k ∧ cc = .int .i64 cb ∧ cb ≤ 1 ∧ k + cb ≤ max la.length lb.length + 1 ∧ Digs L ∧ L.length = k ∧
      Hid (dval L + 10 ^ k * (dval (la.drop k) + dval (lb.drop k) + cb) = a + b) ∧ wr.ownsRow w.heap.size 3 1 out k (ivs L) ∧ Below w.heap.size w wr) (fun _ cc i _ => 2 * (max la.length lb.length - (intOf i).toNat) + (intOf cc).toNat)
  case atStart => exact ⟨0, 0, [], rfl, rfl, by omega, by omega, Digs.nil, rfl, by show _ = _; simp [dval, Va.out, Vb.out], World.ownsRow_nil _ _ _ _, Below.refl _ _⟩
  case round =>
    obtain ⟨k, cb, L, rfl, rfl, hcb, hkm, hL, hLk, hV, hown, hB⟩ := hrel
    have hge : (0 : Int) ≤ (k : Int) := by omega
    by_cases h1 : k < la.length
    · have h1' : (k : Int) < (la.length : Int) := by omega
      by_cases h2 : k < lb.length
      · have h2' : (k : Int) < (lb.length : Int) := by omega
        obtain ⟨b1, off1, rfl, hbb1, hc1⟩ := H.out.at_ (by rintro rfl; simp at h1)
        have cell1 : wr.cell? ⟨b1, off1 + k, none⟩ = some (.int .i64 ((la.getD k 0 : Nat) : Int)) := (hB.cell (p := ⟨b1, off1 + k, none⟩) hbb1).trans (hc1 k h1)
        clear hc1
        obtain ⟨b2, off2, rfl, hbb2, hc2⟩ := H'.out.at_ (by rintro rfl; simp at h2)
        have cell2 : wr.cell? ⟨b2, off2 + k, none⟩ = some (.int .i64 ((lb.getD k 0 : Nat) : Int)) := (hB.cell (p := ⟨b2, off2 + k, none⟩) hbb2).trans (hc2 k h2)
        clear hc2
        have DA := Lib.hid (drop_any la k)
        have DB := Lib.hid (drop_any lb k)
        have hx := Ha.getD k
        have hy := Hb.getD k
        generalize la.getD k 0 = x at *
        generalize lb.getD k 0 = y at *
        have Hmx1 := Lib.hid (small_max (n := k + 1) (by omega)); have Hbs1 : Hid (w.heap.size ≤ wr.heap.size) := (by show _ ≤ _; have := hB.size; omega)
        have HN : Hid (dval (L ++ [(cb + x + y) % 10]) + 10 ^ (k + 1) * (dval (la.drop (k + 1)) + dval (lb.drop (k + 1)) + (cb + x + y) / 10) = a + b) := by
          show _ = _
          rw [← hV.out, dval_append, hLk, DA.out, DB.out, Nat.pow_succ]
          simp only [dval]
          exact plus_step _ _ _ _ _ _ _ _ (by omega)
        clear hV DA DB
        have HL := hL.app (Digs.one (d := (cb + x + y) % 10) (by omega))
        go_wp2_with (at_builtin; refine wpList_append_own_at _ rfl (.tmp 44) (.tmp 47) _ rfl w.heap.size 3 i0 _ 1 8 Try.underlying33 hi0 hz0 hz1 hz2 rfl (by decide) (u5) (k) (ivs L) rfl (hown.alloc _) ⟨wr.heap.size, 0, none⟩ 1 1 [.int .i64 (((cb : Int) + (x : Int) + (y : Int)) % 10)] rfl rfl (one_news wr _ _) (one_one _) Hmx1.out.1 Hmx1.out.2 (alloc_le Hbs1.out) ?_; intro v1 w1 hown1 hgrow1 _ hat1)
        have hB1 := own_below hB (by have := hB.size; omega) hown hgrow1
        go_roundw
        case rel => exact ⟨k + 1, (cb + x + y) / 10, L ++ [(cb + x + y) % 10], by go_num, by go_num, by omega, by omega, HL, by simp [hLk], HN, by rw [ivs_append]; exact hown1, hB1⟩
        case measure => simp [intOf]; omega
      · have h2' : (lb.length : Int) ≤ (k : Int) := by omega
        have h2n : lb.length ≤ k := by omega
        obtain ⟨b1, off1, rfl, hbb1, hc1⟩ := H.out.at_ (by rintro rfl; simp at h1)
        have cell1 : wr.cell? ⟨b1, off1 + k, none⟩ = some (.int .i64 ((la.getD k 0 : Nat) : Int)) := (hB.cell (p := ⟨b1, off1 + k, none⟩) hbb1).trans (hc1 k h1)
        clear hc1
        have DA := Lib.hid (drop_any la k)
        have DB := Lib.hid (drop_any lb k)
        have hx := Ha.getD k
        have hy := Hb.getD k
        rw [getD_out (l := lb) (by omega)] at DB hy
        generalize la.getD k 0 = x at *
        have Hmx1 := Lib.hid (small_max (n := k + 1) (by omega)); have Hbs1 : Hid (w.heap.size ≤ wr.heap.size) := (by show _ ≤ _; have := hB.size; omega)
        have HN : Hid (dval (L ++ [(cb + x) % 10]) + 10 ^ (k + 1) * (dval (la.drop (k + 1)) + dval (lb.drop (k + 1)) + (cb + x) / 10) = a + b) := by
          show _ = _
          rw [← hV.out, dval_append, hLk, DA.out, DB.out, Nat.pow_succ]
          simp only [dval]
          exact plus_step _ _ _ _ _ _ _ _ (by omega)
        clear hV DA DB
        have HL := hL.app (Digs.one (d := (cb + x) % 10) (by omega))
        go_wp2_with (at_builtin; refine wpList_append_own_at _ rfl (.tmp 44) (.tmp 47) _ rfl w.heap.size 3 i0 _ 1 8 Try.underlying33 hi0 hz0 hz1 hz2 rfl (by decide) (u5) (k) (ivs L) rfl (hown.alloc _) ⟨wr.heap.size, 0, none⟩ 1 1 [.int .i64 (((cb : Int) + (x : Int)) % 10)] rfl rfl (one_news wr _ _) (one_one _) Hmx1.out.1 Hmx1.out.2 (alloc_le Hbs1.out) ?_; intro v1 w1 hown1 hgrow1 _ hat1)
        have hB1 := own_below hB (by have := hB.size; omega) hown hgrow1
        go_roundw
        case rel => exact ⟨k + 1, (cb + x) / 10, L ++ [(cb + x) % 10], by go_num, by go_num, by omega, by omega, HL, by simp [hLk], HN, by rw [ivs_append]; exact hown1, hB1⟩
        case measure => simp [intOf]; omega
    · have h1' : (la.length : Int) ≤ (k : Int) := by omega
      have h1n : la.length ≤ k := by omega
      by_cases h2 : k < lb.length
      · have h2' : (k : Int) < (lb.length : Int) := by omega
        obtain ⟨b2, off2, rfl, hbb2, hc2⟩ := H'.out.at_ (by rintro rfl; simp at h2)
        have cell2 : wr.cell? ⟨b2, off2 + k, none⟩ = some (.int .i64 ((lb.getD k 0 : Nat) : Int)) := (hB.cell (p := ⟨b2, off2 + k, none⟩) hbb2).trans (hc2 k h2)
        clear hc2
        have DA := Lib.hid (drop_any la k)
        have DB := Lib.hid (drop_any lb k)
        have hx := Ha.getD k
        have hy := Hb.getD k
        rw [getD_out (l := la) (by omega)] at DA hx
        generalize lb.getD k 0 = y at *
        have Hmx1 := Lib.hid (small_max (n := k + 1) (by omega)); have Hbs1 : Hid (w.heap.size ≤ wr.heap.size) := (by show _ ≤ _; have := hB.size; omega)
        have HN : Hid (dval (L ++ [(cb + y) % 10]) + 10 ^ (k + 1) * (dval (la.drop (k + 1)) + dval (lb.drop (k + 1)) + (cb + y) / 10) = a + b) := by
          show _ = _
          rw [← hV.out, dval_append, hLk, DA.out, DB.out, Nat.pow_succ]
          simp only [dval]
          exact plus_step _ _ _ _ _ _ _ _ (by omega)
        clear hV DA DB
        have HL := hL.app (Digs.one (d := (cb + y) % 10) (by omega))
        go_wp2_with (at_builtin; refine wpList_append_own_at _ rfl (.tmp 44) (.tmp 47) _ rfl w.heap.size 3 i0 _ 1 8 Try.underlying33 hi0 hz0 hz1 hz2 rfl (by decide) (u5) (k) (ivs L) rfl (hown.alloc _) ⟨wr.heap.size, 0, none⟩ 1 1 [.int .i64 (((cb : Int) + (y : Int)) % 10)] rfl rfl (one_news wr _ _) (one_one _) Hmx1.out.1 Hmx1.out.2 (alloc_le Hbs1.out) ?_; intro v1 w1 hown1 hgrow1 _ hat1)
        have hB1 := own_below hB (by have := hB.size; omega) hown hgrow1
        go_roundw
        case rel => exact ⟨k + 1, (cb + y) / 10, L ++ [(cb + y) % 10], by go_num, by go_num, by omega, by omega, HL, by simp [hLk], HN, by rw [ivs_append]; exact hown1, hB1⟩
        case measure => simp [intOf]; omega
      · have h2' : (lb.length : Int) ≤ (k : Int) := by omega
        have h2n : lb.length ≤ k := by omega
        by_cases h3 : cb = 0
        · subst h3
          have HT : Hid (dval L = a + b) := by
            show _ = _
            rw [← hV.out, List.drop_of_length_le h1n, List.drop_of_length_le h2n]; simp [dval]
          obtain ⟨Ao, co, rfl, hI⟩ := Ints.of_own hown
          have C := Lib.hid (fun W (hW : Ints W Ao co L) => cut_any hW (by omega) hL)
          rw [HT.out] at C
          clear hV hown
          go_wp2_with fail
          rw [show (k : Nat) = L.length from hLk.symm] at *
          refine (C.out _ hI).mono ?_
          rintro e w1 ⟨A1, c1, rfl, hI1, hb1⟩
          go_wp2
          go_ret
          exact ⟨A1, c1, rfl, hI1, below_on hB hb1⟩
        · skip
          have DA := Lib.hid (drop_any la k)
          have DB := Lib.hid (drop_any lb k)
          have hx := Ha.getD k
          have hy := Hb.getD k
          rw [getD_out (l := la) (by omega)] at DA hx
          rw [getD_out (l := lb) (by omega)] at DB hy
          obtain rfl : cb = 1 := by omega
          have Hmx1 := Lib.hid (small_max (n := k + 1) (by omega)); have Hbs1 : Hid (w.heap.size ≤ wr.heap.size) := (by show _ ≤ _; have := hB.size; omega)
          have HN : Hid (dval (L ++ [(1) % 10]) + 10 ^ (k + 1) * (dval (la.drop (k + 1)) + dval (lb.drop (k + 1)) + (1) / 10) = a + b) := by
            show _ = _
            rw [← hV.out, dval_append, hLk, DA.out, DB.out, Nat.pow_succ]
            simp only [dval]
            exact plus_step _ _ _ _ _ _ _ _ (by omega)
          clear hV DA DB
          have HL := hL.app (Digs.one (d := (1) % 10) (by omega))
          go_wp2_with (at_builtin; refine wpList_append_own_at _ rfl (.tmp 44) (.tmp 47) _ rfl w.heap.size 3 i0 _ 1 8 Try.underlying33 hi0 hz0 hz1 hz2 rfl (by decide) (u5) (k) (ivs L) rfl (hown.alloc _) ⟨wr.heap.size, 0, none⟩ 1 1 [.int .i64 (1)] rfl rfl (one_news wr _ _) (one_one _) Hmx1.out.1 Hmx1.out.2 (alloc_le Hbs1.out) ?_; intro v1 w1 hown1 hgrow1 _ hat1)
          have hB1 := own_below hB (by have := hB.size; omega) hown hgrow1
          go_roundw
          case rel => exact ⟨k + 1, (1) / 10, L ++ [(1) % 10], by go_num, by go_num, by omega, by omega, HL, by simp [hLk], HN, by rw [ivs_append]; exact hown1, hB1⟩
          case measure => simp [intOf]; omega
end Go.Proofs.Ytanfgolelhmdhaa
