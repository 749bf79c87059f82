/- The contracts of the reference's cut and double: slices of digits. -/
import Derived.Test.YtfecnogmjfmghaaDoorRefM
import Derived.Test.YtfecnogmjfmghaaDoorRows
import Derived.WalkSpells
import Derived.WalkLawsBesides
namespace Go.Proofs.YtfecnogmjfmghaaDoor
set_option linter.unusedSimpArgs false
set_option linter.unusedVariables false
set_option linter.unnecessarySimpa false
open Go.RowKit

theorem int_info : (Tryd.prog.info? 3).map (fun i => (i.zero, i.size, i.bytes)) = some (some (.int .i64 0), 1, 8) := by kernel_rfl

set_option maxHeartbeats 1000000 in
theorem cut_some (b off c : Nat) (l : List Nat) (w : World) (hl : l.length ≤ 1000) (hlc : l.length ≤ c) (hb : b < w.heap.size) (hd : Digs l)
    (hc : ∀ j, j < l.length → w.cell? ⟨b, off + j, none⟩ = some (.int .i64 ((l.getD j 0 : Nat) : Int))) :
    Calls Tryd.prog 35 #[.slice (some ⟨b, off, none⟩) l.length c] w fun e w' => ∃ A' c', e = .returned (.slice A' (dig (dval l)).length c') ∧ Ints w' A' c' (dig (dval l)) ∧ Below w.heap.size w w' := by
  obtain ⟨i0, hi0, hz0, hz1, hz2⟩ := info_parts int_info
  have Hc := Lib.hid hc; clear hc
  go_enter Tryd.func35, Tryd.ntmps35
  go_wp2
  go_loop [3] (fun n => ∃ k : Nat, k ≤ l.length ∧ n = .int .i64 k ∧ Hid (dval (l.take k) = dval l)) (fun n => (intOf n).toNat)
  case atStart => exact ⟨l.length, Nat.le_refl _, rfl, by show _ = _; rw [List.take_of_length_le (Nat.le_refl _)]⟩
  case round =>
    obtain ⟨k, hk, rfl, hv⟩ := hrel
    cases k with
    | zero =>
      have t0 : decide ((0 : Int) < ((0 : Nat) : Int)) = false := by simp
      have h0 : Hid (dig (dval l) = []) := by show _ = _; rw [← hv.out]; simp [dval, dig_zero]
      go_wp2
      go_ret
      refine ⟨some ⟨w.heap.size, 0, none⟩, 0, by rw [h0.out]; rfl, ?_, (Below.refl _ _).alloc (Nat.le_refl _) _⟩
      rw [h0.out]
      exact ⟨Nat.le_refl _, by simp [maxLen], fun h => absurd rfl h⟩
    | succ j =>
      have hj := Hc.out j (by omega)
      have hlt : (j : Int) < (l.length : Int) := by omega
      have hge : (0 : Int) ≤ (j : Int) := by omega
      have hkc : (j : Int) + 1 ≤ (c : Int) := by omega
      have hkc' : ((j + 1 : Nat) : Int) ≤ (c : Int) := by omega
      have hx := hd.getD j
      have HT : Hid (l.take (j + 1) = l.take j ++ [l.getD j 0]) := take_succ_getD l (by omega)
      by_cases hz : l.getD j 0 = 0
      · have tb : (((l.getD j 0 : Nat) : Int) == 0) = true := by rw [hz]; rfl
        have hv' : Hid (dval (l.take j) = dval l) := by
          show _ = _
          rw [← hv.out, HT.out, dval_append, hz]; simp [dval]
        clear hz hv HT
        generalize l.getD j 0 = x at *
        go_wp2
        go_round
        case rel => exact ⟨j, by omega, by go_num, hv'⟩
        case measure => simp [intOf]
      · have tb : (((l.getD j 0 : Nat) : Int) == 0) = false := by rw [beq_eq_false_iff_ne]; omega
        have hu : Hid (l.take (j + 1) = dig (dval l)) := by
          show _ = _
          rw [← hv.out]
          apply dig_unique (hd.take _)
          intro _
          rw [List.length_take, Nat.min_eq_left (by omega), Nat.add_sub_cancel, HT.out, dval_append, List.length_take, Nat.min_eq_left (by omega)]
          simp only [dval]
          have : 10 ^ j * 1 ≤ 10 ^ j * (l.getD j 0 + 10 * 0) := Nat.mul_le_mul_left _ (by omega)
          omega
        have O := Lib.hid (World.ownsRow_made (e := 3) (size := 1) w #[] 0 (Nat.le_refl w.heap.size) (by simp [maxLen]) rfl)
        have N1 : Hid ((ivs (l.take (j + 1))).length = (j + 1) * 1) := by show _ = _; rw [ivs_len, List.length_take]; omega
        have N2 : Hid (∀ i u, (ivs (l.take (j + 1)))[i]? = some u → (w.alloc (.cells #[] 3)).cell? ((⟨b, off, none⟩ : Addr).add i) = some u) :=
          Ints.news (fun i hi => by rw [List.length_take] at hi; rw [take_getD l (by omega)]; exact (World.cell?_alloc_lt w _ ⟨b, off + i, none⟩ hb).trans (Hc.out i (by omega)))
        have N3 := Lib.hid (ivs_one (l.take (j + 1)))
        have N4 : Hid (0 + (j + 1) ≤ maxLen) := by show _ ≤ _; simp only [maxLen]; omega
        have N5 : Hid ((0 + (j + 1)) * 8 ≤ 140737488355328) := by show _ ≤ _; omega
        have N6 : Hid (w.heap.size ≤ (w.alloc (.cells #[] 3)).heap.size) := by show _ ≤ _; simp
        clear hz hv HT
        generalize l.getD j 0 = x at *
        go_wp2_with (at_builtin; refine wpList_append_own_at _ rfl (.tmp 18) (.tmp 21) _ rfl w.heap.size 3 i0 _ 1 8 Tryd.underlying31 hi0 hz0 hz1 hz2 rfl (by decide) (.slice (some ⟨w.heap.size, 0, none⟩) 0 0) 0 [] rfl O.out ⟨b, off, none⟩ (j + 1) c (ivs (l.take (j + 1))) rfl N1.out N2.out N3.out N4.out N5.out N6.out ?_; intro v' w1 hown hgrow _ hat)
        go_ret
        rw [Nat.zero_add, List.nil_append] at hown
        obtain ⟨A', c', rfl, hI⟩ := Ints.of_own hown
        rw [hu.out] at hI
        refine ⟨A', c', by rw [hu.out]; rfl, hI, ?_⟩
        exact ((Below.refl _ _).alloc (Nat.le_refl _) _).grown hgrow (by simp) (fun k hk => by simp [Value.ownBlock] at hk; omega)

theorem cut_none (A : Option Addr) (c : Nat) (w : World) :
    Calls Tryd.prog 35 #[.slice A 0 c] w fun e w' => ∃ A' c', e = .returned (.slice A' 0 c') ∧ Ints w' A' c' [] ∧ Below w.heap.size w w' := by
  have t0 : decide ((0 : Int) < ((0 : Nat) : Int)) = false := by simp
  cases A
  all_goals
    go_enter Tryd.func35, Tryd.ntmps35
    go_wp2
    refine wp_loop_rounds 1 ?_
    rw [rounds_succ]
    go_wp2
    go_ret
    refine ⟨some ⟨w.heap.size, 0, none⟩, 0, rfl, ?_, (Below.refl _ _).alloc (Nat.le_refl _) _⟩
    exact ⟨Nat.le_refl _, by simp [maxLen], fun h => absurd rfl h⟩
theorem cut_any {A : Option Addr} {c : Nat} {l : List Nat} {w : World} (h : Ints w A c l) (hl : l.length ≤ 1000) (hd : Digs l) :
    Calls Tryd.prog 35 #[.slice A l.length c] w fun e w' => ∃ A' c', e = .returned (.slice A' (dig (dval l)).length c') ∧ Ints w' A' c' (dig (dval l)) ∧ Below w.heap.size w w' := by
  by_cases hn : l = []
  · subst hn
    have e0 : dig (dval []) = [] := by simp [dval, dig_zero]
    rw [e0]
    exact cut_none A c w
  · obtain ⟨b, off, rfl, hb, hc⟩ := h.at_ hn
    exact cut_some b off c l w hl h.1 hb hd hc

/-! ## double -/
theorem dbl_step (a p x d cb : Nat) : a + p * ((2 * x + cb) % 10 + 10 * 0) + p * 10 * (2 * d + (2 * x + cb) / 10) = a + p * (2 * (x + 10 * d) + cb) := by
  rw [Nat.mul_assoc, Nat.add_assoc, ← Nat.mul_add]; congr 2; omega
set_option maxHeartbeats 1000000 in
theorem double_any {A : Option Addr} {c : Nat} {m bit : Nat} {w : World} (h : Ints w A c (dig m)) (hl : (dig m).length ≤ 900) (hb : bit ≤ 1) :
    Calls Tryd.prog 34 #[.slice A (dig m).length c, .int .i64 (bit : Int)] w fun e w' => ∃ A' c', e = .returned (.slice A' (dig (2 * m + bit)).length c') ∧ Ints w' A' c' (dig (2 * m + bit)) ∧ Below w.heap.size w w' := by
  obtain ⟨i0, hi0, hz0, hz1, hz2⟩ := info_parts int_info
  have Hd := dig_lt m
  have Hm : Hid (dval (dig m) = m) := dval_dig m
  have Hg : Hid (dig m ≠ [] → 10 ^ ((dig m).length - 1) ≤ m) := fun hn => by
    have : m ≠ 0 := by rintro rfl; exact hn dig_zero
    exact dig_ge this
  have H := Lib.hid h; clear h
  generalize dig m = l at *
  go_enter Tryd.func34, Tryd.ntmps34
  go_wp2
  go_loopw [1, 5, 6] (fun bt out i wr => ∃ (k cb : Nat) (L : List Nat), k ≤ l.length ∧ i = .int .i64 k ∧ bt = .int .i64 cb ∧ cb ≤ 1 ∧ Digs L ∧ L.length = k ∧
      Hid (dval L + 10 ^ k * (2 * dval (l.drop k) + cb) = 2 * m + bit) ∧ wr.ownsRow w.heap.size 3 1 out k (ivs L) ∧ Below w.heap.size w wr) (fun _ _ i _ => l.length - (intOf i).toNat)
  case atStart => exact ⟨0, bit, [], by omega, rfl, rfl, hb, Digs.nil, rfl, by show _ = _; simp [dval, Hm.out], World.ownsRow_nil _ _ _ _, Below.refl _ _⟩
  case round =>
    obtain ⟨k, cb, L, hk, rfl, rfl, hcb, hL, hLk, hV, hown, hB⟩ := hrel
    by_cases hlt : k < l.length
    · obtain ⟨b, off, rfl, hbb, hc⟩ := H.out.at_ (by rintro rfl; simp at hlt)
      have hcell : wr.cell? ⟨b, off + k, none⟩ = some (.int .i64 ((l.getD k 0 : Nat) : Int)) := (hB.cell (p := ⟨b, off + k, none⟩) hbb).trans (hc k hlt)
      have hx := Hd.getD k
      have hlt' : (k : Int) < (l.length : Int) := by omega
      have hge : (0 : Int) ≤ (k : Int) := by omega
      have HD := Lib.hid (drop_getD l hlt)
      clear hc
      generalize l.getD k 0 = x at *
      have Hmx1 := Lib.hid (small_max (n := k + 1) (by omega)); have Hbs1 : Hid (w.heap.size ≤ wr.heap.size) := (by show _ ≤ _; have := hB.size; omega)
      have HN : Hid (dval (L ++ [(2 * x + cb) % 10]) + 10 ^ (k + 1) * (2 * dval (l.drop (k + 1)) + (2 * x + cb) / 10) = 2 * m + bit) := by
        show _ = _
        rw [← hV.out, dval_append, hLk, HD.out]
        simp only [dval]
        exact dbl_step _ _ _ _ _
      clear hV HD
      have HL := hL.app (Digs.one (d := (2 * x + cb) % 10) (by omega))
      go_wp2_with (at_builtin; refine wpList_append_own_at _ rfl (.tmp 21) (.tmp 24) _ rfl w.heap.size 3 i0 _ 1 8 Tryd.underlying31 hi0 hz0 hz1 hz2 rfl (by decide) (u5) (k) (ivs L) rfl (hown.alloc _) ⟨wr.heap.size, 0, none⟩ 1 1 [.int .i64 ((2 * (x : Int) + cb) % 10)] rfl rfl (one_news wr _ _) (one_one _) Hmx1.out.1 Hmx1.out.2 (alloc_le Hbs1.out) ?_; intro v1 w1 hown1 hgrow1 _ hat1)
      have hB1 := own_below hB (by have := hB.size; omega) hown hgrow1
      go_roundw
      case rel => exact ⟨k + 1, (2 * x + cb) / 10, L ++ [(2 * x + cb) % 10], by omega, by go_num, by go_num, by omega, HL, by simp [hLk], HN, by rw [ivs_append]; exact hown1, hB1⟩
      case measure => simp [intOf]; omega
    · have hkl : k = l.length := by omega
      subst hkl
      have HT : Hid (dval L + 10 ^ l.length * cb = 2 * m + bit) := by
        show _ = _
        rw [← hV.out, List.drop_of_length_le (Nat.le_refl _)]; simp [dval]
      clear hV
      by_cases hcz : cb = 0
      · have HD : Hid (L = dig (2 * m + bit)) := by
          show _ = _
          have h1 := HT.out
          rw [hcz, Nat.mul_zero, Nat.add_zero] at h1
          rw [← h1]
          apply dig_unique hL
          intro hne
          have hl0 : l ≠ [] := by rintro rfl; exact hne (List.eq_nil_of_length_eq_zero hLk)
          have := Hg.out hl0
          rw [hLk]; omega
        subst hcz
        clear HT
        go_wp2
        go_ret
        obtain ⟨A', c', rfl, hI⟩ := Ints.of_own hown
        rw [HD.out] at hI
        exact ⟨A', c', by rw [HD.out]; rfl, hI, hB⟩
      · have HD : Hid (L ++ [cb] = dig (2 * m + bit)) := by
          show _ = _
          have h1 := HT.out
          have h2 : dval (L ++ [cb]) = 2 * m + bit := by rw [dval_append, hLk]; simp only [dval]; omega
          rw [← h2]
          apply dig_unique (hL.app (Digs.one (by omega)))
          intro _
          rw [dval_append, List.length_append, hLk]
          simp only [dval, List.length_cons, List.length_nil, Nat.zero_add, Nat.add_sub_cancel]
          have : 10 ^ l.length * 1 ≤ 10 ^ l.length * (cb + 10 * 0) := Nat.mul_le_mul_left _ (by omega)
          omega
        obtain rfl : cb = 1 := by omega
        clear HT hcz
        have Hmx2 := Lib.hid (small_max (n := l.length + 1) (by omega)); have Hbs2 : Hid (w.heap.size ≤ wr.heap.size) := (by show _ ≤ _; have := hB.size; omega)
        go_wp2_with (at_builtin; refine wpList_append_own_at _ rfl (.tmp 30) (.tmp 32) _ rfl w.heap.size 3 i0 _ 1 8 Tryd.underlying31 hi0 hz0 hz1 hz2 rfl (by decide) (u5) (l.length) (ivs L) rfl (hown.alloc _) ⟨wr.heap.size, 0, none⟩ 1 1 [.int .i64 (1)] rfl rfl (one_news wr _ _) (one_one _) Hmx2.out.1 Hmx2.out.2 (alloc_le Hbs2.out) ?_; intro v2 w2 hown2 hgrow2 _ hat2)
        have hB1 := own_below hB (by have := hB.size; omega) hown hgrow2
        go_ret
        rw [show ivs L ++ [Value.int .i64 1] = ivs (L ++ [1]) from by rw [ivs_append]; rfl] at hown2
        obtain ⟨A', c', rfl, hI⟩ := Ints.of_own hown2
        rw [HD.out] at hI
        exact ⟨A', c', by rw [HD.out]; rfl, hI, hB1⟩
end Go.Proofs.YtfecnogmjfmghaaDoor
