/- The contracts of the reference's Less, Same, signed. -/
import Derived.Test.YtfecnogmjfmghaaDoorRefA
import Derived.Test.YtfecnogmjfmghaaDoorDecM
import Derived.Test.YtfecnogmjfmghaaDoorLin
import Derived.Deep.QuietTactic
import Derived.BigQuiet
namespace Go.Proofs.YtfecnogmjfmghaaDoor
set_option linter.unusedSimpArgs false
set_option linter.unusedVariables false
set_option linter.unnecessarySimpa false
open Go.RowKit

theorem below_drewN {B : Nat} {a w : World} (h : Below B a w) (n : Nat) : Below B a (w.drewN n) := ⟨h.os, h.tape, h.output, h.size, h.block⟩
theorem less_len {m n : Nat} (h : (dig m).length ≠ (dig n).length) : decide ((dig m).length < (dig n).length) = decide (m < n) := by
  rw [decide_eq_decide]
  have h1 := dig_len_iff m (dig n).length
  have h2 := dig_len_iff n (dig m).length
  have h3 := dig_len_lt m
  have h4 := dig_len_lt n
  constructor
  · intro hl
    have : (dig m).length + 1 ≤ (dig n).length := by omega
    have h5 : m < 10 ^ (dig m).length := h3
    by_cases hn : n < 10 ^ (dig m).length
    · have := dig_len_le hn; omega
    · omega
  · intro hl
    by_cases hn : (dig n).length ≤ (dig m).length
    · exfalso
      have : (dig n).length < (dig m).length := by omega
      have h5 : ¬ m < 10 ^ (dig n).length := fun hm => by have := dig_len_le hm; omega
      omega
    · omega
theorem drop_eq_all {a b : List Nat} (h : a.drop 0 = b.drop 0) : a = b := by simpa using h
theorem getD_get {l : List Nat} {k : Nat} (h : k < l.length) : l.getD k 0 = l[k] := by rw [List.getD_eq_getElem?_getD, List.getElem?_eq_getElem h]; rfl

set_option maxHeartbeats 1000000 in
theorem less_any {A A' : Option Addr} {c c' m n : Nat} {w : World} (h : Ints w A c (dig m)) (h' : Ints w A' c' (dig n)) (hl : (dig m).length ≤ 1000) (hl' : (dig n).length ≤ 1000) :
    Calls Tryd.prog 33 #[.slice A (dig m).length c, .slice A' (dig n).length c'] w fun e w' => e = .returned (.bool (decide (m < n))) ∧ Below w.heap.size w w' := by
  by_cases hne : (dig m).length = (dig n).length
  · have t1 : (((dig m).length : Int) != ((dig n).length : Int)) = false := by rw [hne]; simp
    have Ha := dig_lt m
    have Hb := dig_lt n
    have Vm : Hid (dval (dig m) = m) := dval_dig m
    have Vn : Hid (dval (dig n) = n) := dval_dig n
    have H := Lib.hid h; clear h
    have H' := Lib.hid h'; clear h'
    have HL := Lib.hid hne; clear hne
    generalize dig m = l at *
    generalize dig n = l' at *
    go_enter Tryd.func33, Tryd.ntmps33
    go_wp2
    go_loopw [5] (fun i wr => ∃ k : Nat, k ≤ l.length ∧ i = .int .i64 ((k : Int) - 1) ∧ Hid (l.drop k = l'.drop k) ∧ Below w.heap.size w wr) (fun i _ => (intOf i + 1).toNat)
    case atStart => exact ⟨l.length, Nat.le_refl _, rfl, by show _ = _; rw [List.drop_of_length_le (Nat.le_refl _), List.drop_of_length_le (by rw [← HL.out]; exact Nat.le_refl _)], Below.refl _ _⟩
    case round =>
      obtain ⟨k, hk, rfl, hE, hB⟩ := hrel
      cases k with
      | zero =>
        have hR : Hid (decide (m < n) = false) := by
          show _ = _
          rw [decide_eq_false_iff_not, ← Vm.out, ← Vn.out, drop_eq_all hE.out]; exact Nat.lt_irrefl _
        go_wp2
        go_ret
        exact ⟨by rw [hR.out]; rfl, hB⟩
      | succ j =>
        have hjl : j < l.length := by omega
        have hjl' : j < l'.length := by rw [← HL.out]; omega
        obtain ⟨b, off, rfl, hbb, hc⟩ := H.out.at_ (by rintro rfl; simp at hjl)
        obtain ⟨b', off', rfl, hbb', hc'⟩ := H'.out.at_ (by rintro rfl; simp at hjl')
        have k1 : wr.cell? ⟨b, off + j, none⟩ = some (.int .i64 ((l.getD j 0 : Nat) : Int)) := (hB.cell (p := ⟨b, off + j, none⟩) hbb).trans (hc j hjl)
        have k2 : wr.cell? ⟨b', off' + j, none⟩ = some (.int .i64 ((l'.getD j 0 : Nat) : Int)) := (hB.cell (p := ⟨b', off' + j, none⟩) hbb').trans (hc' j hjl')
        have g0 : (0 : Int) ≤ (j : Int) := by omega
        have g1 : (j : Int) < (l.length : Int) := by omega
        have g2 : (j : Int) < (l'.length : Int) := by omega
        clear hc hc'
        by_cases hx : l.getD j 0 = l'.getD j 0
        · have tx : (((l.getD j 0 : Nat) : Int) != ((l'.getD j 0 : Nat) : Int)) = false := by rw [hx]; simp
          have hE' : Hid (l.drop j = l'.drop j) := by
            show _ = _
            rw [drop_getD l hjl, drop_getD l' hjl', hE.out, hx]
          clear hE hx
          generalize l.getD j 0 = x at *
          generalize l'.getD j 0 = y at *
          go_wp2
          go_quiet (fail)
          go_wp2
          go_roundw
          case rel => exact ⟨j, by omega, rfl, hE', below_drewN hB _⟩
          case measure => simp [intOf]
        · have tx : (((l.getD j 0 : Nat) : Int) != ((l'.getD j 0 : Nat) : Int)) = true := by simp only [bne_iff_ne, ne_eq]; omega
          have hR : Hid (decide (l.getD j 0 < l'.getD j 0) = decide (m < n)) := by
            show _ = _
            have e1 := getD_get hjl
            have e2 := getD_get hjl'
            rw [decide_eq_decide, ← Vm.out, ← Vn.out]
            constructor
            · intro hlt
              exact dval_lt_of_top Ha HL.out hjl hE.out (by rw [← e1, ← e2]; omega)
            · intro hlt
              rcases Nat.lt_or_ge (l.getD j 0) (l'.getD j 0) with h1 | h1
              · omega
              · exfalso
                have := dval_lt_of_top Hb HL.out.symm hjl' hE.out.symm (by rw [← e1, ← e2]; omega)
                omega
          clear hE hx
          generalize l.getD j 0 = x at *
          generalize l'.getD j 0 = y at *
          go_wp2
          go_quiet (fail)
          go_wp2
          go_quiet (fail)
          go_wp2
          go_ret
          exact ⟨by rw [← hR.out]; rfl, below_drewN (below_drewN hB _) _⟩
  · have t1 : (((dig m).length : Int) != ((dig n).length : Int)) = true := by simp only [bne_iff_ne, ne_eq]; omega
    have hR := Lib.hid (less_len hne)
    clear hne h h'
    generalize (dig m).length = p at *
    generalize (dig n).length = q at *
    go_enter Tryd.func33, Tryd.ntmps33
    go_wp2
    go_ret
    exact ⟨by rw [← hR.out]; rfl, Below.refl _ _⟩

/-! ## Numbers of the reference: a sign and digits -/
/-- A number of the reference: its value v has the sign neg and the digits of m. -/
def IsNum (w : World) (v : Value) (neg : Bool) (m : Nat) : Prop := ∃ A c, v = .agg #[.bool neg, .slice A (dig m).length c] ∧ Ints w A c (dig m)
theorem IsNum.on {w w' : World} {v : Value} {neg : Bool} {m : Nat} (h : IsNum w v neg m) (k : Below w.heap.size w w') : IsNum w' v neg m := by
  obtain ⟨A, c, e, hI⟩ := h; exact ⟨A, c, e, hI.on k⟩

/-- A store into a block of numbers leaves each number. -/
theorem IsNum.put2 {w : World} {v : Value} {neg : Bool} {m : Nat} {b : Nat} {cs : Array Value} (h : IsNum w v neg m) (hl : Lies w b 33 cs) (x y : Value) :
    IsNum ((w.setCell ⟨b, 0, none⟩ x).setCell ⟨b, 1, none⟩ y) v neg m := by
  obtain ⟨A, c, e, hI⟩ := h
  exact ⟨A, c, e, (hI.far hl (by decide) 0 _).far (hl.put 0 _) (by decide) 1 _⟩
/-- Behind a pointer lies a number. -/
def HasNum (u : Value) (neg : Bool) (m : Nat) (w : World) : Prop := ∃ b A c, u = .pointer (some ⟨b, 0, none⟩) ∧ Lies w b 33 #[.bool neg, .slice A (dig m).length c] ∧ Ints w A c (dig m)
theorem HasNum.on {u : Value} {neg : Bool} {m : Nat} {w w' : World} (h : HasNum u neg m w) (k : Below w.heap.size w w') : HasNum u neg m w' := by
  obtain ⟨b, A, c, e, hl, hI⟩ := h; exact ⟨b, A, c, e, hl.on k, hI.on k⟩
theorem HasNum.far2 {u u' : Value} {neg : Bool} {m g : Nat} {cs : Array Value} {w : World} (h : HasNum u neg m w) (hl : Lies w g 33 cs) (hv' : u' = .pointer (some ⟨g, 0, none⟩)) (hn : u ≠ u') (x y : Value) :
    HasNum u neg m ((w.setCell ⟨g, 0, none⟩ x).setCell ⟨g, 1, none⟩ y) := by
  obtain ⟨b, A, c, e, hl', hI⟩ := h
  have hne := blk_ne e hv' hn
  exact ⟨b, A, c, e, (hl'.far (p := ⟨g, 0, none⟩) hne x).far (p := ⟨g, 1, none⟩) hne y, (hI.far hl (by decide) 0 _).far (hl.put 0 _) (by decide) 1 _⟩
/-- A number and an error's number, as one result. -/
def RHeld (v : Value) (neg : Bool) (m k : Nat) (w : World) : Prop := ∃ u, v = .tuple #[u, .int .i64 (k : Int)] ∧ IsNum w u neg m
theorem RHeld.on {v : Value} {neg : Bool} {m k : Nat} {w w' : World} (h : RHeld v neg m k w) (hb : Below w.heap.size w w') : RHeld v neg m k w' := by
  obtain ⟨u, e, hI⟩ := h; exact ⟨u, e, hI.on hb⟩
theorem RHeld.put2 {w : World} {v : Value} {neg : Bool} {m k : Nat} {b : Nat} {cs : Array Value} (h : RHeld v neg m k w) (hl : Lies w b 33 cs) (x y : Value) :
    RHeld ((v)) neg m k ((w.setCell ⟨b, 0, none⟩ x).setCell ⟨b, 1, none⟩ y) := by
  obtain ⟨u, e, hI⟩ := h; exact ⟨u, e, hI.put2 hl x y⟩

theorem same_any {v v' : Value} {n n' : Bool} {m m' : Nat} {w : World} (h : IsNum w v n m) (h' : IsNum w v' n' m') (hl : (dig m).length ≤ 1000) (hl' : (dig m').length ≤ 1000) :
    Calls Tryd.prog 16 #[v, v'] w fun e w' => e = .returned (.bool (eqM n m n' m')) ∧ Below w.heap.size w w' := by
  obtain ⟨A, c, rfl, hI⟩ := h
  obtain ⟨A', c', rfl, hI'⟩ := h'
  have HI := Lib.hid hI
  have HI' := Lib.hid hI'
  clear hI hI'
  by_cases hn : n = n'
  · have tn : (n == n') = true := by simp [hn]
    have e0 : Hid (eqM n m n' m' = (!decide (m < m') && !decide (m' < m))) := by
      show _ = _
      unfold eqM; rw [tn, Bool.true_and, Bool.eq_iff_iff]; simp; omega
    clear hn
    by_cases h1 : m < m'
    · have d1 : decide (m < m') = true := by simpa using h1
      have e1 : Hid (eqM n m n' m' = false) := by show _ = _; rw [e0.out, d1]; rfl
      clear h1 e0
      go_enter Tryd.func16, Tryd.ntmps16
      go_wp2_with fail
      refine (less_any (HI.out.on ?b1) (HI'.out.on ?b2) hl hl').mono ?_
      case b1 => repeat (first | (with_reducible exact Below.refl _ _) | (with_reducible refine Below.drew ?_) | (refine Below.setCell ?_ (by first | exact Nat.le_refl _ | (simp; done) | (simp; omega) | omega) _) | (refine Below.alloc ?_ (by first | exact Nat.le_refl _ | (simp; done) | (simp; omega) | omega) _) | (refine Below.trans ?_ (Below.mono (by assumption) (by first | exact Nat.le_refl _ | (simp; done) | (simp; omega) | omega))))
      case b2 => repeat (first | (with_reducible exact Below.refl _ _) | (with_reducible refine Below.drew ?_) | (refine Below.setCell ?_ (by first | exact Nat.le_refl _ | (simp; done) | (simp; omega) | omega) _) | (refine Below.alloc ?_ (by first | exact Nat.le_refl _ | (simp; done) | (simp; omega) | omega) _) | (refine Below.trans ?_ (Below.mono (by assumption) (by first | exact Nat.le_refl _ | (simp; done) | (simp; omega) | omega))))
      rintro e w1 ⟨rfl, hbw1⟩; obtain ⟨hcw1, hfw1⟩ := bcell hbw1; have hzw1 := hbw1.size; (try simp at hzw1)
      go_wp2
      go_ret
      refine ⟨by rw [e1.out]; rfl, ?_⟩
      repeat (first | (with_reducible exact Below.refl _ _) | (with_reducible refine Below.drew ?_) | (refine Below.setCell ?_ (by first | exact Nat.le_refl _ | (simp; done) | (simp; omega) | omega) _) | (refine Below.alloc ?_ (by first | exact Nat.le_refl _ | (simp; done) | (simp; omega) | omega) _) | (refine Below.trans ?_ (Below.mono (by assumption) (by first | exact Nat.le_refl _ | (simp; done) | (simp; omega) | omega))))
    · have d1 : decide (m < m') = false := by simpa using h1
      have e1 : Hid (eqM n m n' m' = !decide (m' < m)) := by show _ = _; rw [e0.out, d1]; rfl
      clear h1 e0
      go_enter Tryd.func16, Tryd.ntmps16
      go_wp2_with fail
      refine (less_any (HI.out.on ?b1) (HI'.out.on ?b2) hl hl').mono ?_
      case b1 => repeat (first | (with_reducible exact Below.refl _ _) | (with_reducible refine Below.drew ?_) | (refine Below.setCell ?_ (by first | exact Nat.le_refl _ | (simp; done) | (simp; omega) | omega) _) | (refine Below.alloc ?_ (by first | exact Nat.le_refl _ | (simp; done) | (simp; omega) | omega) _) | (refine Below.trans ?_ (Below.mono (by assumption) (by first | exact Nat.le_refl _ | (simp; done) | (simp; omega) | omega))))
      case b2 => repeat (first | (with_reducible exact Below.refl _ _) | (with_reducible refine Below.drew ?_) | (refine Below.setCell ?_ (by first | exact Nat.le_refl _ | (simp; done) | (simp; omega) | omega) _) | (refine Below.alloc ?_ (by first | exact Nat.le_refl _ | (simp; done) | (simp; omega) | omega) _) | (refine Below.trans ?_ (Below.mono (by assumption) (by first | exact Nat.le_refl _ | (simp; done) | (simp; omega) | omega))))
      rintro e w1 ⟨rfl, hbw1⟩; obtain ⟨hcw1, hfw1⟩ := bcell hbw1; have hzw1 := hbw1.size; (try simp at hzw1)
      have : w.heap.size < w1.heap.size := by omega
      have : w.heap.size + 1 < w1.heap.size := by omega
      go_wp2_with fail
      have hB1 : Below w.heap.size w w1 := by repeat (first | (with_reducible exact Below.refl _ _) | (with_reducible refine Below.drew ?_) | (refine Below.setCell ?_ (by first | exact Nat.le_refl _ | (simp; done) | (simp; omega) | omega) _) | (refine Below.alloc ?_ (by first | exact Nat.le_refl _ | (simp; done) | (simp; omega) | omega) _) | (refine Below.trans ?_ (Below.mono (by assumption) (by first | exact Nat.le_refl _ | (simp; done) | (simp; omega) | omega))))
      refine (less_any (HI'.out.on hB1) (HI.out.on hB1) hl' hl).mono ?_
      rintro e w2 ⟨rfl, hbw2⟩; obtain ⟨hcw2, hfw2⟩ := bcell hbw2; have hzw2 := hbw2.size; (try simp at hzw2)
      go_wp2
      go_ret
      refine ⟨by rw [e1.out]; rfl, ?_⟩
      exact below_on hB1 hbw2
  · have tn : (n == n') = false := by simp [hn]
    have e0 : Hid (eqM n m n' m' = false) := by show _ = _; unfold eqM; rw [tn]; rfl
    clear hn
    go_enter Tryd.func16, Tryd.ntmps16
    go_wp2
    go_ret
    refine ⟨by rw [e0.out]; rfl, ?_⟩
    repeat (first | (with_reducible exact Below.refl _ _) | (with_reducible refine Below.drew ?_) | (refine Below.setCell ?_ (by first | exact Nat.le_refl _ | (simp; done) | (simp; omega) | omega) _) | (refine Below.alloc ?_ (by first | exact Nat.le_refl _ | (simp; done) | (simp; omega) | omega) _) | (refine Below.trans ?_ (Below.mono (by assumption) (by first | exact Nat.le_refl _ | (simp; done) | (simp; omega) | omega))))

/-- A result that is a number of the reference. -/
def RetNum (neg : Bool) (m : Nat) (w : World) (e : Ending) (w' : World) : Prop := ∃ v, e = .returned v ∧ IsNum w' v neg m ∧ Below w.heap.size w w'
end Go.Proofs.YtfecnogmjfmghaaDoor
