/- Bytes in memory, and the contracts of blank, digit and next. -/
import Derived.Test.YtfecnogmjfmghaaDoorNumB
import Derived.Test.YtfecnogmjfmghaaDoorRefM
import Derived.Test.YtfecnogmjfmghaaDoorRows
import Derived.WalkSpells
import Derived.WalkLawsBesides
namespace Go.Proofs.YtfecnogmjfmghaaDoor
set_option linter.unusedSimpArgs false
set_option linter.unusedVariables false
set_option linter.unnecessarySimpa false
open Go.RowKit

/-- The value of a byte. -/
abbrev bv (c : UInt8) : Value := .int .u8 ((c.toNat : Nat) : Int)
/-- The bytes l lie where a slice of l.length begins. -/
def U8s (w : World) (p : Option Addr) (l : List UInt8) : Prop := l ≠ [] → ∃ b o, p = some ⟨b, o, none⟩ ∧ b < w.heap.size ∧ ∀ j, j < l.length → w.cell? ⟨b, o + j, none⟩ = some (bv (l.getD j 0))
/-- A slice that reads as the bytes l. -/
def BS (w : World) (v : Value) (l : List UInt8) : Prop := ∃ p c, v = .slice p l.length c ∧ l.length ≤ c ∧ c ≤ maxLen ∧ U8s w p l
theorem U8s.on {w w' : World} {p : Option Addr} {l : List UInt8} (h : U8s w p l) (k : Below w.heap.size w w') : U8s w' p l := by
  intro hn
  obtain ⟨b, o, e, hb, hc⟩ := h hn
  exact ⟨b, o, e, Nat.lt_of_lt_of_le hb k.size, fun j hj => (k.cell (p := ⟨b, o + j, none⟩) hb).trans (hc j hj)⟩
theorem BS.on {w w' : World} {v : Value} {l : List UInt8} (h : BS w v l) (k : Below w.heap.size w w') : BS w' v l := by
  obtain ⟨p, c, e, h1, h2, h3⟩ := h
  exact ⟨p, c, e, h1, h2, h3.on k⟩
theorem BS.nil (w : World) : BS w (.slice none 0 0) [] := ⟨none, 0, rfl, Nat.le_refl _, by simp [maxLen], fun h => absurd rfl h⟩
theorem drop_u8 (l : List UInt8) {k : Nat} (h : k < l.length) : l.drop k = l.getD k 0 :: l.drop (k + 1) := by
  rw [List.drop_eq_getElem_cons h, List.getD_eq_getElem?_getD, List.getElem?_eq_getElem h]; rfl
theorem take_u8 (l : List UInt8) {k : Nat} (h : k < l.length) : l.take (k + 1) = l.take k ++ [l.getD k 0] := by
  rw [List.take_succ_eq_append_getElem h, List.getD_eq_getElem?_getD, List.getElem?_eq_getElem h]; rfl

theorem blank_u (c : UInt8) (w : World) : Calls Tryd.prog 31 #[bv c] w fun e w' => e = .returned (.bool (blkU c)) ∧ w = w' := by
  obtain ⟨b, hb⟩ : ∃ b, b = blkU c := ⟨_, rfl⟩
  rw [← hb]
  unfold blkU at hb
  have HB := Lib.hid hb; clear hb
  have hn := c.toNat_lt
  unfold bv
  generalize c.toNat = n at *
  by_cases h1 : n = 32
  · obtain rfl : b = true := by rw [HB.out]; simp [h1]
    have t1 : ((n : Int) == 32) = true := by rw [h1]; rfl
    clear h1
    go_enter Tryd.func31, Tryd.ntmps31
    go_wp2
    go_ret
    exact ⟨rfl, rfl⟩
  · have t1 : ((n : Int) == 32) = false := by rw [beq_eq_false_iff_ne]; omega
    by_cases h2 : 9 ≤ n
    · have t2 : decide ((9 : Int) ≤ (n : Int)) = true := by simp; omega
      by_cases h3 : n ≤ 13
      · obtain rfl : b = true := by rw [HB.out]; simp [h2, h3]
        have t3 : decide ((n : Int) ≤ 13) = true := by simp; omega
        clear h1
        go_enter Tryd.func31, Tryd.ntmps31
        go_wp2
        go_ret
        exact ⟨rfl, rfl⟩
      · obtain rfl : b = false := by rw [HB.out]; simp [h1, h3]
        have t3 : decide ((n : Int) ≤ 13) = false := by simp; omega
        clear h1
        go_enter Tryd.func31, Tryd.ntmps31
        go_wp2
        go_ret
        exact ⟨rfl, rfl⟩
    · obtain rfl : b = false := by rw [HB.out]; simp [h1, h2]
      have t2 : decide ((9 : Int) ≤ (n : Int)) = false := by simp; omega
      clear h1
      go_enter Tryd.func31, Tryd.ntmps31
      go_wp2
      go_ret
      exact ⟨rfl, rfl⟩

theorem digit_u (c : UInt8) (w : World) : Calls Tryd.prog 61 #[bv c] w fun e w' => e = .returned (.bool (dgtU c)) ∧ w = w' := by
  obtain ⟨b, hb⟩ : ∃ b, b = dgtU c := ⟨_, rfl⟩
  rw [← hb]
  unfold dgtU at hb
  have HB := Lib.hid hb; clear hb
  have hn := c.toNat_lt
  unfold bv
  generalize c.toNat = n at *
  by_cases h2 : 48 ≤ n
  · have t2 : decide ((48 : Int) ≤ (n : Int)) = true := by simp; omega
    by_cases h3 : n ≤ 57
    · obtain rfl : b = true := by rw [HB.out]; simp [h2, h3]
      have t3 : decide ((n : Int) ≤ 57) = true := by simp; omega
      go_enter Tryd.func61, Tryd.ntmps61
      go_wp2
      go_ret
      exact ⟨rfl, rfl⟩
    · obtain rfl : b = false := by rw [HB.out]; simp [h3]
      have t3 : decide ((n : Int) ≤ 57) = false := by simp; omega
      go_enter Tryd.func61, Tryd.ntmps61
      go_wp2
      go_ret
      exact ⟨rfl, rfl⟩
  · obtain rfl : b = false := by rw [HB.out]; simp [h2]
    have t2 : decide ((48 : Int) ≤ (n : Int)) = false := by simp; omega
    go_enter Tryd.func61, Tryd.ntmps61
    go_wp2
    go_ret
    exact ⟨rfl, rfl⟩

theorem next_u (p : Nat) (hp : p ≤ 4) (c : UInt8) (w : World) :
    Calls Tryd.prog 43 #[.int .i64 (p : Int), bv c] w fun e w' => e = .returned (.int .i64 ((nxt p c : Nat) : Int)) ∧ w = w' := by
  have HB : Hid (∀ w, Calls Tryd.prog 31 #[bv c] w fun e w' => e = .returned (.bool (blkU c)) ∧ w = w') := blank_u c
  have HD : Hid (∀ w, Calls Tryd.prog 61 #[bv c] w fun e w' => e = .returned (.bool (dgtU c)) ∧ w = w') := digit_u c
  obtain ⟨q, hq⟩ : ∃ q, q = nxt p c := ⟨_, rfl⟩
  rw [← hq]
  unfold nxt at hq
  have HQ := Lib.hid hq; clear hq
  have hn := c.toNat_lt
  unfold bv at *
  generalize blkU c = bk at *
  generalize dgtU c = dg at *
  generalize c.toNat = n at *
  by_cases h0 : p = 0
  · subst h0
    cases bk
    · by_cases h1 : n = 43
      · obtain rfl : q = 1 := by rw [HQ.out]; simp [h1]
        have t1 : ((n : Int) == 43) = true := by rw [h1]; rfl
        clear h1
        go_enter Tryd.func43, Tryd.ntmps43
        go_wp2_with (go_at_call 31; refine (HB.out _).mono ?_; rintro e w' ⟨rfl, rfl⟩)
        go_ret
        exact ⟨rfl, rfl⟩
      · have t1 : ((n : Int) == 43) = false := by rw [beq_eq_false_iff_ne]; omega
        by_cases h2 : n = 45
        · obtain rfl : q = 1 := by rw [HQ.out]; simp [h2]
          have t2 : ((n : Int) == 45) = true := by rw [h2]; rfl
          clear h1 h2
          go_enter Tryd.func43, Tryd.ntmps43
          go_wp2_with (go_at_call 31; refine (HB.out _).mono ?_; rintro e w' ⟨rfl, rfl⟩)
          go_ret
          exact ⟨rfl, rfl⟩
        · have t2 : ((n : Int) == 45) = false := by rw [beq_eq_false_iff_ne]; omega
          cases dg
          · by_cases h3 : n = 46
            · obtain rfl : q = 3 := by rw [HQ.out]; simp [h3]
              have t3 : ((n : Int) == 46) = true := by rw [h3]; rfl
              clear h1 h2 h3
              go_enter Tryd.func43, Tryd.ntmps43
              go_wp2_with (first | (go_at_call 31; refine (HB.out _).mono ?_; rintro e w' ⟨rfl, rfl⟩) | (go_at_call 61; refine (HD.out _).mono ?_; rintro e w' ⟨rfl, rfl⟩))
              go_ret
              exact ⟨rfl, rfl⟩
            · obtain rfl : q = 5 := by rw [HQ.out]; simp [h1, h2, h3]
              have t3 : ((n : Int) == 46) = false := by rw [beq_eq_false_iff_ne]; omega
              clear h1 h2 h3
              go_enter Tryd.func43, Tryd.ntmps43
              go_wp2_with (first | (go_at_call 31; refine (HB.out _).mono ?_; rintro e w' ⟨rfl, rfl⟩) | (go_at_call 61; refine (HD.out _).mono ?_; rintro e w' ⟨rfl, rfl⟩))
              go_ret
              exact ⟨rfl, rfl⟩
          · obtain rfl : q = 2 := by rw [HQ.out]; simp [h1, h2]
            clear h1 h2
            go_enter Tryd.func43, Tryd.ntmps43
            go_wp2_with (first | (go_at_call 31; refine (HB.out _).mono ?_; rintro e w' ⟨rfl, rfl⟩) | (go_at_call 61; refine (HD.out _).mono ?_; rintro e w' ⟨rfl, rfl⟩))
            go_ret
            exact ⟨rfl, rfl⟩
    · obtain rfl : q = 0 := by rw [HQ.out]; simp
      go_enter Tryd.func43, Tryd.ntmps43
      go_wp2_with (go_at_call 31; refine (HB.out _).mono ?_; rintro e w' ⟨rfl, rfl⟩)
      go_ret
      exact ⟨rfl, rfl⟩
  · by_cases h12 : p ≤ 2
    · cases dg
      · by_cases h3 : n = 46
        · obtain rfl : q = 3 := by rw [HQ.out]; simp [h0, h12, h3]
          have t3 : ((n : Int) == 46) = true := by rw [h3]; rfl
          clear h3
          rcases (by omega : p = 1 ∨ p = 2) with rfl | rfl <;> clear h0 h12 hp
          all_goals
            go_enter Tryd.func43, Tryd.ntmps43
            go_wp2_with (go_at_call 61; refine (HD.out _).mono ?_; rintro e w' ⟨rfl, rfl⟩)
            go_ret
            exact ⟨rfl, rfl⟩
        · obtain rfl : q = 5 := by rw [HQ.out]; simp [h0, h12, h3]
          have t3 : ((n : Int) == 46) = false := by rw [beq_eq_false_iff_ne]; omega
          clear h3
          rcases (by omega : p = 1 ∨ p = 2) with rfl | rfl <;> clear h0 h12 hp
          all_goals
            go_enter Tryd.func43, Tryd.ntmps43
            go_wp2_with (go_at_call 61; refine (HD.out _).mono ?_; rintro e w' ⟨rfl, rfl⟩)
            go_ret
            exact ⟨rfl, rfl⟩
      · obtain rfl : q = 2 := by rw [HQ.out]; simp [h0, h12]
        rcases (by omega : p = 1 ∨ p = 2) with rfl | rfl <;> clear h0 h12 hp
        all_goals
          go_enter Tryd.func43, Tryd.ntmps43
          go_wp2_with (go_at_call 61; refine (HD.out _).mono ?_; rintro e w' ⟨rfl, rfl⟩)
          go_ret
          exact ⟨rfl, rfl⟩
    · cases dg
      · obtain rfl : q = 5 := by rw [HQ.out]; simp [h0, h12, hp]
        rcases (by omega : p = 3 ∨ p = 4) with rfl | rfl <;> clear h0 h12 hp
        all_goals
          go_enter Tryd.func43, Tryd.ntmps43
          go_wp2_with (go_at_call 61; refine (HD.out _).mono ?_; rintro e w' ⟨rfl, rfl⟩)
          go_ret
          exact ⟨rfl, rfl⟩
      · obtain rfl : q = 4 := by rw [HQ.out]; simp [h0, h12, hp]
        rcases (by omega : p = 3 ∨ p = 4) with rfl | rfl <;> clear h0 h12 hp
        all_goals
          go_enter Tryd.func43, Tryd.ntmps43
          go_wp2_with (go_at_call 61; refine (HD.out _).mono ?_; rintro e w' ⟨rfl, rfl⟩)
          go_ret
          exact ⟨rfl, rfl⟩
end Go.Proofs.YtfecnogmjfmghaaDoor
