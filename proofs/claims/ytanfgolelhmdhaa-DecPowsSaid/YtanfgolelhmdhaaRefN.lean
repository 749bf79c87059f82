/- The reference's times. -/
import Derived.Test.YtanfgolelhmdhaaRefI
namespace Go.Proofs.Ytanfgolelhmdhaa
set_option linter.unusedSimpArgs false
set_option linter.unusedVariables false
set_option linter.unnecessarySimpa false
open Go.RowKit

theorem mul_step (v p da y x cb s T : Nat) (h : v + p * ((x + 10 * da) * y + cb) = T) (hs : s = cb + x * y) : v + p * (s % 10 + 10 * 0) + p * 10 * (da * y + s / 10) = T := by
  rw [← h, Nat.mul_assoc, Nat.add_assoc, ← Nat.mul_add]
  congr 2
  rw [Nat.add_mul, Nat.mul_assoc 10]
  omega
theorem zeros_val (k : Nat) : dval (List.replicate k 0) = 0 := by
  induction k with
  | zero => rfl
  | succ k ih => rw [List.replicate_succ]; simp only [dval, ih]
theorem zeros_digs (k : Nat) : Digs (List.replicate k 0) := fun x hx => by have := List.eq_of_mem_replicate hx; omega
theorem nine {x y : Nat} (hx : x < 10) (hy : y < 10) : x * y ≤ 81 := Nat.mul_le_mul (Nat.le_of_lt_succ hx) (Nat.le_of_lt_succ hy)
theorem take_val (l : List Nat) (k : Nat) (hk : k < l.length) : dval (l.take (k + 1)) = dval (l.take k) + 10 ^ k * l.getD k 0 := by
  rw [take_succ_getD l hk, dval_append, List.length_take, Nat.min_eq_left (by omega)]
  simp only [dval, Nat.mul_zero, Nat.add_zero]
theorem mul_len {a b p q M : Nat} (ha : (dig a).length ≤ p) (hb : (dig b).length ≤ q) (hM : M ≤ a * b) : (dig M).length ≤ p + q := by
  have h1 := (dig_len_iff a p).1 ha
  have h2 := (dig_len_iff b q).1 hb
  apply dig_len_le
  rw [Nat.pow_add]
  exact Nat.lt_of_le_of_lt hM (Nat.mul_lt_mul'' h1 h2)
theorem take_le (l : List Nat) (k : Nat) (hk : k ≤ l.length) : dval (l.take k) ≤ dval l := by
  have := dval_take_drop l k hk; omega

set_option maxHeartbeats 8000000 in
theorem times_any {A A' : Option Addr} {c c' a b : Nat} {w : World} (h : Ints w A c (dig a)) (h' : Ints w A' c' (dig b)) (hl : (dig a).length ≤ 300) (hl' : (dig b).length ≤ 300) :
    Calls Try.prog 58 #[.slice A (dig a).length c, .slice A' (dig b).length c'] w (RetInts (a * b) w) := by
  obtain ⟨i0, hi0, hz0, hz1, hz2⟩ := info_parts int_info
  have Ha := dig_lt a
  have Hb := dig_lt b
  have Va : Hid (dval (dig a) = a) := dval_dig a
  have Vb : Hid (dval (dig b) = b) := dval_dig b
  have Hbig : Hid (∀ M, M ≤ a * b → (dig M).length ≤ 600) := fun M hM => Nat.le_trans (mul_len hl hl' hM) (by omega)
  have H := Lib.hid h; clear h
  have H' := Lib.hid h'; clear h'
  generalize dig a = la at *
  generalize dig b = lb at *
  go_enter Try.func58, Try.ntmps58
  go_wp2
  go_loopw [5, 6, 7, 8, 9, 10] (fun out i _ _ _ _ wr => ∃ (k M : Nat) (Ao : Option Addr) (co : Nat), k ≤ lb.length ∧ i = .int .i64 k ∧ Hid (M = a * dval (lb.take k)) ∧ out = .slice Ao (dig M).length co ∧ Ints wr Ao co (dig M) ∧ Below w.heap.size w wr) (fun _ i _ _ _ _ _ => lb.length - (intOf i).toNat)
  case atStart => exact ⟨0, 0, none, 0, by omega, rfl, by show _ = _; simp [dval], by rw [dig_zero]; rfl, by rw [dig_zero]; exact Ints.nil _, Below.refl _ _⟩
  case round =>
    obtain ⟨k, M, Ao, co, hk, rfl, hM, rfl, hIo, hB⟩ := hrel
    by_cases hkl : k < lb.length
    · have hkl' : (k : Int) < (lb.length : Int) := by omega
      have hge : (0 : Int) ≤ (k : Int) := by omega
      obtain ⟨wo, hwo⟩ : ∃ wo : World, wo = wr := ⟨_, rfl⟩
      subst hwo
      go_wp2
      go_loopw [7, 8] (fun row kk wr => ∃ (j : Nat), j ≤ k ∧ kk = .int .i64 j ∧ wr.ownsRow wo.heap.size 3 1 row j (ivs (List.replicate j 0)) ∧ Below wo.heap.size wo wr) (fun _ kk _ => k - (intOf kk).toNat)
      case atStart => exact ⟨0, by omega, rfl, World.ownsRow_nil _ _ _ _, Below.refl _ _⟩
      case round =>
        obtain ⟨j, hj, rfl, hown, hBo⟩ := hrel
        by_cases hjk : j < k
        · have hjk' : (j : Int) < (k : Int) := by omega
          have hB := hBo
          have Hmx1 := Lib.hid (small_max (n := j + 1) (by omega)); have Hbs1 : Hid (wo.heap.size ≤ wr.heap.size) := (by show _ ≤ _; have := hB.size; omega)
          go_wp2_with (at_builtin; refine wpList_append_own_at _ rfl (.tmp 22) (.tmp 23) _ rfl wo.heap.size 3 i0 _ 1 8 Try.underlying33 hi0 hz0 hz1 hz2 rfl (by decide) (u7) (j) (ivs (List.replicate j 0)) rfl (hown.alloc _) ⟨wr.heap.size, 0, none⟩ 1 1 [.int .i64 (0)] rfl rfl (one_news wr _ _) (one_one _) Hmx1.out.1 Hmx1.out.2 (alloc_le Hbs1.out) ?_; intro v1 w1 hown1 hgrow1 _ hat1)
          have hB1 := own_below hBo (by have := hBo.size; omega) hown hgrow1
          go_roundw
          case rel => exact ⟨j + 1, by omega, by go_num, by rw [List.replicate_succ', ivs_append]; exact hown1, hB1⟩
          case measure => simp [intOf]; omega
        · have hjk' : (k : Int) ≤ (j : Int) := by omega
          obtain rfl : k = j := by omega
          clear hjk hjk' hj
          have hy := Hb.getD k
          have HTk : Hid (a * dval (lb.take (k + 1)) = M + 10 ^ k * (a * lb.getD k 0)) := by
            show _ = _
            rw [take_val lb k hkl, hM.out, Nat.mul_add, ← Nat.mul_assoc, ← Nat.mul_assoc, Nat.mul_comm a (10 ^ k)]
          have HS : Hid (a * dval (lb.take (k + 1)) ≤ a * b) := Nat.mul_le_mul_left _ (by have := take_le lb (k + 1) hkl; rw [Vb.out] at this; exact this)
          obtain ⟨b', off', rfl, hbb', hc'⟩ := H'.out.at_ (by rintro rfl; simp at hkl)
          have cy : wo.cell? ⟨b', off' + k, none⟩ = some (.int .i64 ((lb.getD k 0 : Nat) : Int)) := (hB.cell (p := ⟨b', off' + k, none⟩) hbb').trans (hc' k hkl)
          have hbo' : b' < wo.heap.size := by have := hB.size; omega
          clear hc'
          generalize lb.getD k 0 = y at *
          go_wp2
          go_loopw [7, 9, 10] (fun row cc kk wr => ∃ (j cb : Nat) (R : List Nat), 10 * j + cb ≤ 10 * la.length + 10 ∧ cb ≤ 8 ∧ kk = .int .i64 j ∧ cc = .int .i64 cb ∧ Digs R ∧ R.length = k + j ∧
              Hid (dval R + 10 ^ (k + j) * (dval (la.drop j) * y + cb) = 10 ^ k * (a * y)) ∧ wr.ownsRow wo.heap.size 3 1 row (k + j) (ivs R) ∧ Below wo.heap.size wo wr) (fun _ cc kk _ => 10 * (la.length - (intOf kk).toNat) + (intOf cc).toNat)
          case atStart => exact ⟨0, 0, List.replicate k 0, by omega, by omega, rfl, rfl, zeros_digs k, by simp, by show _ = _; rw [zeros_val, List.drop_zero, Va.out]; simp, by simpa using hown, hBo⟩
          case round =>
            clear hown hBo
            obtain ⟨j, cb, R, hjc, hcb, rfl, rfl, hR, hRl, hV, hown, hBo⟩ := hrel
            have hgj : (0 : Int) ≤ (j : Int) := by omega
            by_cases hjl : j < la.length
            · have hjl' : (j : Int) < (la.length : Int) := by omega
              obtain ⟨b1, off1, rfl, hbb1, hc1⟩ := H.out.at_ (by rintro rfl; simp at hjl)
              have cx : wr.cell? ⟨b1, off1 + j, none⟩ = some (.int .i64 ((la.getD j 0 : Nat) : Int)) := (hBo.cell (p := ⟨b1, off1 + j, none⟩) (by show b1 < _; have := hB.size; omega)).trans ((hB.cell (p := ⟨b1, off1 + j, none⟩) hbb1).trans (hc1 j hjl))
              have cy2 : wr.cell? ⟨b', off' + k, none⟩ = some (.int .i64 ((y : Nat) : Int)) := (hBo.cell (p := ⟨b', off' + k, none⟩) hbo').trans cy
              have hx := Ha.getD j
              have DA := Lib.hid (drop_any la j)
              clear hc1
              generalize la.getD j 0 = x at *
              have h81 := nine hx hy
              obtain ⟨z, hz⟩ : ∃ z, z = x * y := ⟨_, rfl⟩
              have hzi : (x : Int) * (y : Int) = (z : Int) := by rw [hz, Int.natCast_mul]
              rw [← hz] at h81
              have HN : Hid (dval (R ++ [(cb + z) % 10]) + 10 ^ (k + (j + 1)) * (dval (la.drop (j + 1)) * y + (cb + z) / 10) = 10 ^ k * (a * y)) := by
                show _ = _
                have h := hV.out
                rw [DA.out] at h
                rw [dval_append, hRl, ← Nat.add_assoc, Nat.pow_succ]
                simp only [dval]
                exact mul_step _ _ _ _ _ _ _ _ h (by rw [hz])
              have HZ := Lib.hid hz
              clear hz hV DA
              have wr1 : IntKind.i64.wrap ((x : Int) * (y : Int)) = (z : Int) := by rw [hzi, IntKind.wrap_i64]; omega
              have wr2 : IntKind.i64.wrap ((cb : Int) + (z : Int)) = (cb : Int) + (z : Int) := by rw [IntKind.wrap_i64]; omega
              have HL := hR.app (Digs.one (d := (cb + z) % 10) (by omega))
              have hnn : (0 : Int) ≤ (cb : Int) + (z : Int) := by omega
              have hnm : (cb : Int) + (z : Int) ≤ 89 := by omega
              have Hmx1 := Lib.hid (small_max (n := k + j + 1) (by omega))
              have Hbs1 : Hid (wo.heap.size ≤ wr.heap.size) := hBo.size
              clear hzi
              go_wp2
              go_quiet (fail)
              have hownD : ∀ n, (wr.drewN n).ownsRow wo.heap.size 3 1 u7 (k + j) (ivs R) := fun _ => hown
              have HownD := Lib.hid hownD
              clear hownD
              go_wp2_with (at_builtin; refine wpList_append_own_at _ rfl (.tmp 50) (.tmp 53) _ rfl wo.heap.size 3 i0 _ 1 8 Try.underlying33 hi0 hz0 hz1 hz2 rfl (by decide) (u7) (k + j) (ivs R) rfl ((HownD.out _).alloc _) ⟨(wr.drewN _).heap.size, 0, none⟩ 1 1 [.int .i64 (((cb : Int) + (z : Int)) % 10)] rfl rfl (one_news (wr.drewN _) _ _) (one_one _) Hmx1.out.1 Hmx1.out.2 (alloc_le Hbs1.out) ?_; intro v1 w1 hown1 hgrow1 _ hat1)
              have hB1 := own_below (below_drewN hBo _) (by show _ ≤ wr.heap.size; exact Hbs1.out) (HownD.out _) hgrow1
              go_roundw
              case rel => exact ⟨j + 1, (cb + z) / 10, R ++ [(cb + z) % 10], by omega, by omega, by go_num, by go_num, HL, by simp [hRl]; omega, HN, by rw [ivs_append]; exact hown1, hB1⟩
              case measure => simp [intOf]; omega
            · have hjl' : (la.length : Int) ≤ (j : Int) := by omega
              have hjn : la.length ≤ j := by omega
              by_cases hcz : cb = 0
              · subst hcz
                have HT : Hid (dval R = 10 ^ k * (a * y)) := by
                  show _ = _
                  have h := hV.out
                  rw [List.drop_of_length_le hjn] at h
                  simpa [dval] using h
                obtain ⟨Ar, cr, rfl, hIr⟩ := Ints.of_own hown
                have C1 := Lib.hid (fun W (hW : Ints W Ar cr R) => cut_any hW (by omega) hR)
                rw [HT.out] at C1
                have hM1 : M + 10 ^ k * (a * y) ≤ a * b := by rw [← HTk.out]; exact HS.out
                have C2 : Hid (∀ W Az cz, Ints W Ao co (dig M) → Ints W Az cz (dig (10 ^ k * (a * y))) → Calls Try.prog 49 #[.slice Ao (dig M).length co, .slice Az (dig (10 ^ k * (a * y))).length cz] W (RetInts (M + 10 ^ k * (a * y)) W)) :=
                  fun W Az cz h1 h2 => plus_any h1 h2 (Nat.le_trans (Hbig.out _ (by omega)) (by omega)) (Nat.le_trans (Hbig.out _ (by omega)) (by omega))
                have HN : Hid (M + 10 ^ k * (a * y) = a * dval (lb.take (k + 1))) := HTk.out.symm
                clear hV hown hM1 HT
                generalize 10 ^ k * (a * y) = N at *
                rw [hRl.symm] at *
                go_wp2_with fail
                refine (C1.out _ hIr).mono ?_
                rintro e1 w1 ⟨A1, c1, rfl, hI1, hb1⟩
                have hBw1 : Below wo.heap.size wo w1 := hBo.trans (hb1.mono hBo.size)
                go_wp2_with fail
                refine (C2.out _ _ _ (hIo.on hBw1) hI1).mono ?_
                rintro e2 w2 ⟨A2, c2, rfl, hI2, hb2⟩
                have hBw2 : Below w.heap.size w w2 := below_on (below_on hB hBw1) hb2
                go_wp2
                go_roundw
                case rel => exact ⟨k + 1, _, A2, c2, by omega, by go_num, HN, rfl, hI2, hBw2⟩
                case measure => simp [intOf]; omega
              · have hcp : decide (0 < cb) = true := by simp; omega
                have hcp' : (0 : Int) < (cb : Int) := by omega
                have DA := Lib.hid (drop_any la j)
                have hx : la.getD j 0 = 0 := getD_out hjn
                have HN : Hid (dval (R ++ [cb % 10]) + 10 ^ (k + (j + 1)) * (dval (la.drop (j + 1)) * y + cb / 10) = 10 ^ k * (a * y)) := by
                  show _ = _
                  have h := hV.out
                  rw [DA.out, hx] at h
                  rw [dval_append, hRl, ← Nat.add_assoc, Nat.pow_succ]
                  simp only [dval]
                  exact mul_step _ _ _ _ 0 _ _ _ h (by omega)
                clear hV DA hx
                have HL := hR.app (Digs.one (d := cb % 10) (by omega))
                have Hmx1 := Lib.hid (small_max (n := k + j + 1) (by omega))
                have Hbs1 : Hid (wo.heap.size ≤ wr.heap.size) := hBo.size
                go_wp2_with (at_builtin; refine wpList_append_own_at _ rfl (.tmp 50) (.tmp 53) _ rfl wo.heap.size 3 i0 _ 1 8 Try.underlying33 hi0 hz0 hz1 hz2 rfl (by decide) (u7) (k + j) (ivs R) rfl (hown.alloc _) ⟨wr.heap.size, 0, none⟩ 1 1 [.int .i64 ((cb : Int) % 10)] rfl rfl (one_news wr _ _) (one_one _) Hmx1.out.1 Hmx1.out.2 (alloc_le Hbs1.out) ?_; intro v1 w1 hown1 hgrow1 _ hat1)
                have hB1 := own_below hBo hBo.size hown hgrow1
                go_roundw
                case rel => exact ⟨j + 1, cb / 10, R ++ [cb % 10], by omega, by omega, by go_num, by go_num, HL, by simp [hRl]; omega, HN, by rw [ivs_append]; exact hown1, hB1⟩
                case measure => simp [intOf]; omega
    · have hkl' : (lb.length : Int) ≤ (k : Int) := by omega
      have HM : Hid (M = a * b) := by show _ = _; rw [hM.out, List.take_of_length_le (by omega), Vb.out]
      have C1 : Hid (∀ W, Ints W Ao co (dig M) → Calls Try.prog 47 #[.slice Ao (dig M).length co] W (RetInts (a * b) W)) := by
        intro W hW
        have k := cut_any hW (Nat.le_trans (Hbig.out _ (by rw [HM.out]; exact Nat.le_refl _)) (by omega)) (dig_lt _)
        rw [dval_dig] at k
        rw [← HM.out]
        exact k
      clear hM
      go_wp2_with fail
      refine (C1.out _ hIo).mono ?_
      rintro e1 w1 ⟨A1, c1, rfl, hI1, hb1⟩
      go_wp2
      go_ret
      exact ⟨A1, c1, rfl, hI1, below_on hB hb1⟩
end Go.Proofs.Ytanfgolelhmdhaa
