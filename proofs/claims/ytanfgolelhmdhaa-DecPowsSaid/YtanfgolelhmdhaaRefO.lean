/- The reference's over: the quotient and the rest. -/
import Derived.Test.YtanfgolelhmdhaaRefN
namespace Go.Proofs.Ytanfgolelhmdhaa
set_option linter.unusedSimpArgs false
set_option linter.unusedVariables false
set_option linter.unnecessarySimpa false
open Go.RowKit

theorem one_own (w : World) (B g z : Nat) (hg : g = w.heap.size) (hB : B ≤ w.heap.size) :
    (w.alloc (.cells #[.int .i64 (z : Int)] 3)).ownsRow B 3 1 (.slice (some ⟨g, 0, none⟩) 1 1) 1 (ivs [z]) := by
  subst hg
  exact ⟨rfl, .inr ⟨w.heap.size, 1, _, rfl, hB, heap_alloc_new w _, Nat.le_refl _, by simp [maxLen], rfl, rfl⟩⟩
/-- Two results. -/
def RetTwo (q r : Nat) (w : World) (e : Ending) (w' : World) : Prop := ∃ A c A' c', e = .returned (.tuple #[.slice A (dig q).length c, .slice A' (dig r).length c']) ∧ Ints w' A c (dig q) ∧ Ints w' A' c' (dig r) ∧ Below w.heap.size w w'
theorem quot_end {a b Q r : Nat} (h : a = Q * b + r) (hr : r < b) : Q = a / b ∧ r = a % b := by
  have h' : a = r + b * Q := by rw [h, Nat.mul_comm, Nat.add_comm]
  rw [h']
  have hb : 0 < b := by omega
  refine ⟨?_, ?_⟩
  · rw [Nat.add_mul_div_left _ _ hb, Nat.div_eq_of_lt hr, Nat.zero_add]
  · rw [Nat.add_mul_mod_self_left, Nat.mod_eq_of_lt hr]

set_option maxHeartbeats 8000000 in
theorem over_any {A A' : Option Addr} {c c' a b : Nat} {w : World} (h : Ints w A c (dig a)) (h' : Ints w A' c' (dig b)) (hl : (dig a).length ≤ 600) (hl' : (dig b).length ≤ 300) (hb0 : b ≠ 0) :
    Calls Try.prog 59 #[.slice A (dig a).length c, .slice A' (dig b).length c'] w (RetTwo (a / b) (a % b) w) := by
  obtain ⟨i0, hi0, hz0, hz1, hz2⟩ := info_parts int_info
  have Ha := dig_lt a
  have Va : Hid (dval (dig a) = a) := dval_dig a
  have H := Lib.hid h; clear h
  have H' := Lib.hid h'; clear h'
  have HL : Hid (∀ r, r < 10 * b → (dig r).length ≤ 400) := fun r hr => Nat.le_trans (dig_len_le (k := (dig b).length + 1) (by
    have h1 : b < 10 ^ (dig b).length := dig_len_lt b
    rw [Nat.pow_succ]; omega)) (by omega)
  have C1 : Hid (∀ W r A c, Ints W A c (dig r) → Below w.heap.size w W → r < 10 * b → Calls Try.prog 50 #[.slice A (dig r).length c, .slice A' (dig b).length c'] W (fun e w' => e = .returned (.bool (decide (r < b))) ∧ Below W.heap.size W w')) :=
    fun W r A c hA hW hr => less_any hA (H'.out.on hW) (Nat.le_trans (HL.out r hr) (by omega)) (Nat.le_trans hl' (by omega))
  have C2 : Hid (∀ W r A c, Ints W A c (dig r) → Below w.heap.size w W → r < 10 * b → b ≤ r → Calls Try.prog 51 #[.slice A (dig r).length c, .slice A' (dig b).length c'] W (RetInts (r - b) W)) :=
    fun W r A c hA hW hr hbr => minus_any hA (H'.out.on hW) (Nat.le_trans (HL.out r hr) (by omega)) (Nat.le_trans hl' (by omega)) hbr
  have C3 : Hid (∀ W l A c, Ints W A c l → l.length ≤ 1000 → Digs l → Calls Try.prog 47 #[.slice A l.length c] W (RetInts (dval l) W)) :=
    fun W l A c hA h1 h2 => cut_any hA h1 h2
  clear hl'
  generalize dig a = la at *
  generalize (dig b).length = lbn at *
  go_enter Try.func59, Try.ntmps59
  go_wp2
  go_loopw [6, 7, 8, 9] (fun q rest i _ wr => ∃ (k r : Nat) (Q : List Nat) (Aq : Option Addr) (cq : Nat) (Ar : Option Addr) (cr : Nat), k ≤ la.length ∧ i = .int .i64 ((k : Int) - 1) ∧ q = .slice Aq Q.length cq ∧ Ints wr Aq cq Q ∧ Digs Q ∧ Q.length + k = la.length ∧
      rest = .slice Ar (dig r).length cr ∧ Ints wr Ar cr (dig r) ∧ r < b ∧ Hid (dval (la.drop k) = dval Q * b + r) ∧ Below w.heap.size w wr) (fun _ _ i _ _ => (intOf i + 1).toNat)
  case atStart => exact ⟨la.length, 0, [], none, 0, none, 0, Nat.le_refl _, rfl, rfl, Ints.nil _, Digs.nil, by simp, by rw [dig_zero]; rfl, by rw [dig_zero]; exact Ints.nil _, by omega, by show _ = _; rw [List.drop_of_length_le (Nat.le_refl _)]; simp [dval], Below.refl _ _⟩
  case round =>
    obtain ⟨k, r, Q, Aq, cq, Ar, cr, hk, rfl, rfl, hIq, hQ, hQl, rfl, hIr, hrb, hV, hB⟩ := hrel
    cases k with
    | zero =>
      have hE : Hid (dval Q = a / b ∧ r = a % b) := by
        show _ ∧ _
        apply quot_end _ hrb
        rw [← hV.out, List.drop_zero, Va.out]
      have HI := Lib.hid hIr
      go_wp2_with fail
      refine (C3.out _ _ _ _ hIq (by omega) hQ).mono ?_
      rintro e1 w1 ⟨A1, c1, rfl, hI1, hb1⟩
      have hI2 := HI.out.on hb1
      clear hIr hIq
      rw [hE.out.1] at hI1
      go_wp2
      go_ret2
      refine ⟨A1, c1, Ar, cr, by rw [hE.out.1, ← hE.out.2]; rfl, hI1, by rw [← hE.out.2]; exact hI2, below_on hB hb1⟩
    | succ j =>
      have hjl : j < la.length := by omega
      obtain ⟨b1, off1, rfl, hbb1, hc1⟩ := H.out.at_ (by rintro rfl; simp at hjl)
      have cx : wr.cell? ⟨b1, off1 + j, none⟩ = some (.int .i64 ((la.getD j 0 : Nat) : Int)) := (hB.cell (p := ⟨b1, off1 + j, none⟩) hbb1).trans (hc1 j hjl)
      have g0 : (0 : Int) ≤ (j : Int) := by omega
      have g1 : (j : Int) < (la.length : Int) := by omega
      have hx := Ha.getD j
      have DA := Lib.hid (drop_any la j)
      clear hc1
      generalize la.getD j 0 = x at *
      obtain ⟨wo, hwo⟩ : ∃ wo : World, wo = wr := ⟨_, rfl⟩
      subst hwo
      have hr10 : x + 10 * r < 10 * b := by omega
      have HO := Lib.hid (one_own wo wo.heap.size wo.heap.size x rfl (Nat.le_refl _))
      have HIr : Hid (Ints (wo.alloc (.cells #[.int .i64 (x : Int)] 3)) Ar cr (dig r)) := hIr.on ((Below.refl _ _).alloc (Nat.le_refl _) _)
      have N4 : Hid (1 + (dig r).length ≤ 100000) := by show _ ≤ _; have := HL.out r (by omega); omega
      have N6 : Hid (wo.heap.size ≤ (wo.alloc (.cells #[.int .i64 (x : Int)] 3)).heap.size) := by show _ ≤ _; simp
      have HIq := Lib.hid hIq
      clear hIr hIq
      go_wp2_with (at_builtin; refine wpList_app_ints _ rfl (.tmp 21) (.tmp 22) _ rfl wo.heap.size i0 Try.underlying33 hi0 hz0 hz1 hz2 (.slice (some ⟨wo.heap.size, 0, none⟩) 1 1) 1 [x] rfl HO.out Ar cr (dig r) rfl HIr.out N4.out N6.out ?_; intro v2 w2 hown2 hgrow2)
      obtain ⟨A2, c2, rfl, hI2⟩ := Ints.of_own hown2
      have hBo2 : Below wo.heap.size wo w2 := ((Below.refl _ _).alloc (Nat.le_refl _) _).grown hgrow2 (by simp) (fun k hk => by simp [Value.ownBlock] at hk; omega)
      clear hown2 hgrow2
      have hBw2 : Below w.heap.size w w2 := below_on hB hBo2
      refine (C3.out _ _ _ _ hI2 (by rw [List.length_append]; simp only [List.length_cons, List.length_nil]; have := N4.out; have := HL.out r (by omega); omega) ((Digs.one hx).app (dig_lt r))).mono ?_
      rintro e3 w3 ⟨A3, c3, rfl, hI3, hb3⟩
      have hdv : dval ([x] ++ dig r) = x + 10 * r := by rw [dval_append, dval_dig]; simp [dval]
      rw [hdv] at hI3
      have hBo3 : Below wo.heap.size wo w3 := hBo2.trans (hb3.mono hBo2.size)
      clear hI2 hBw2 hb3 HIr N4 N6 HO
      rw [hdv]
      generalize hs : x + 10 * r = s at *
      have HS := Lib.hid hs
      clear hs hdv hBo2
      go_wp2
      go_loopw [7, 9] (fun rest nn wr => ∃ (t r' : Nat) (A4 : Option Addr) (c4 : Nat), t ≤ 9 ∧ nn = .int .i64 t ∧ rest = .slice A4 (dig r').length c4 ∧ Ints wr A4 c4 (dig r') ∧ Hid (r' + t * b = s) ∧ r' < 10 * b ∧ Below wo.heap.size wo wr ∧ Hid (r' ≤ s)) (fun _ nn _ => 10 - (intOf nn).toNat)
      case atStart => exact ⟨0, s, A3, c3, by omega, rfl, rfl, hI3, by show _ = _; omega, hr10, hBo3, Nat.le_refl s⟩
      case round =>
        obtain ⟨t, r', A4, c4, ht, rfl, rfl, hI4, hT, hr', hBo, hrs⟩ := hrel
        have hBw : Below w.heap.size w wr := below_on hB hBo
        have HI4 := Lib.hid hI4
        clear hI4
        by_cases hlt : r' < b
        · have D1 := Lib.hid (C1.out wr r' A4 c4 HI4.out hBw hr')
          rw [decide_eq_true hlt] at D1
          have HN : Hid (dval (la.drop j) = dval (t :: Q) * b + r') := by
            show _ = _
            rw [DA.out, hV.out]
            have := hT.out
            have := HS.out
            simp only [dval]
            rw [Nat.add_mul, Nat.mul_assoc, Nat.mul_add]; omega
          have HQ : Digs (t :: Q) := Digs.app (Digs.one (d := t) (by omega)) hQ
          clear hV DA
          go_wp2_with fail
          refine D1.out.mono ?_
          rintro e5 w5 ⟨rfl, hb5⟩
          have hBo5 : Below wo.heap.size wo w5 := hBo.trans (hb5.mono hBo.size)
          have hI5 := HI4.out.on hb5
          have hIq5 := HIq.out.on hBo5
          have HO5 := Lib.hid (one_own w5 w5.heap.size w5.heap.size t rfl (Nat.le_refl _))
          have HI5 := Lib.hid hI5
          have HIq5 : Hid (Ints (w5.alloc (.cells #[.int .i64 (t : Int)] 3)) Aq cq Q) := hIq5.on ((Below.refl _ _).alloc (Nat.le_refl _) _)
          have N4 : Hid (1 + Q.length ≤ 100000) := by show _ ≤ _; omega
          have N6 : Hid (w5.heap.size ≤ (w5.alloc (.cells #[.int .i64 (t : Int)] 3)).heap.size) := by show _ ≤ _; simp
          clear hI5 hIq5 D1
          go_wp2_with (at_builtin; refine wpList_app_ints _ rfl (.tmp 35) (.tmp 36) _ rfl w5.heap.size i0 Try.underlying33 hi0 hz0 hz1 hz2 (.slice (some ⟨w5.heap.size, 0, none⟩) 1 1) 1 [t] rfl HO5.out Aq cq Q rfl HIq5.out N4.out N6.out ?_; intro v6 w6 hown6 hgrow6)
          obtain ⟨A6, c6, rfl, hI6⟩ := Ints.of_own hown6
          have hB56 : Below w5.heap.size w5 w6 := ((Below.refl _ _).alloc (Nat.le_refl _) _).grown hgrow6 (by simp) (fun k hk => by simp [Value.ownBlock] at hk; omega)
          have hBw6 : Below w.heap.size w w6 := below_on (below_on hB hBo5) hB56
          go_roundw
          case rel => exact ⟨j, r', t :: Q, A6, c6, A4, c4, by omega, by go_num, rfl, hI6, HQ, by simp; omega, rfl, HI5.out.on hB56, hlt, HN, hBw6⟩
          case measure => simp [intOf]
        · have D1 := Lib.hid (C1.out wr r' A4 c4 HI4.out hBw hr')
          rw [decide_eq_false hlt] at D1
          have ht9 : t + 1 ≤ 9 := by
            have h1 := hT.out
            rcases Nat.lt_or_ge t 9 with h | h
            · omega
            · exfalso
              have : 9 * b ≤ t * b := Nat.mul_le_mul_right _ h
              omega
          have HT' : Hid (r' - b + (t + 1) * b = s) := by show _ = _; have := hT.out; rw [Nat.add_mul]; omega
          clear hT
          go_wp2_with fail
          refine D1.out.mono ?_
          rintro e5 w5 ⟨rfl, hb5⟩
          have hBo5 : Below wo.heap.size wo w5 := hBo.trans (hb5.mono hBo.size)
          go_wp2_with fail
          refine (C2.out w5 r' A4 c4 (HI4.out.on hb5) (below_on hBw hb5) hr' (by omega)).mono ?_
          rintro e6 w6 ⟨A6, c6, rfl, hI6, hb6⟩
          have hBo6 : Below wo.heap.size wo w6 := hBo5.trans (hb6.mono hBo5.size)
          go_wp2
          go_roundw
          case rel => exact ⟨t + 1, r' - b, A6, c6, ht9, by go_num, rfl, hI6, HT', by omega, hBo6, by show _ ≤ _; have := hrs.out; omega⟩
          case measure => simp [intOf]; omega
end Go.Proofs.Ytanfgolelhmdhaa
