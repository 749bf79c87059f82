/- The walk of EreJoins: where a length is too great, or one of the two is no expression. -/
import Derived.Test.YtfmekmbdienbjaaEreS
import Derived.Test.YtfmekmbdienbjaaSetP
import Derived.Test.YtfmekmbdienbjaaEreJoP
namespace Go.Proofs.Ytfmekmbdienbjaa
set_option linter.unusedSimpArgs false
set_option linter.unusedVariables false
set_option linter.unnecessarySimpa false
open Go.RowKit
set_option maxRecDepth 100000 in
set_option maxHeartbeats 8000000 in
theorem jo_long (a b : List UInt8) (va vb : Value) (w : World) (ha : BS w va a) (hb : BS w vb b) (hM : HM w) (h : 60 < a.length ∨ 60 < b.length) :
    Calls Try.prog 3 #[va, vb] w fun e w' => e = .returned (.bool true) ∧ Below w.heap.size w w' := by
  have HA := Lib.hid (awake4 w hM)
  obtain ⟨pa, ca, rfl, a4, a5, a6⟩ := ha
  obtain ⟨pb, cb, rfl, b4, b5, b6⟩ := hb
  clear a6 b6
  by_cases ha : 60 < a.length
  · have t1 : decide ((60 : Int) < (a.length : Int)) = true := decide_eq_true (by omega)
    have t1' : decide (60 < a.length) = true := decide_eq_true ha
    go_enter Try.func3, Try.ntmps3
    go_wp2_with fail
    refine (HA.out).mono ?_; rintro e w1 ⟨rfl, hb1⟩; (try dsimp only)
    have HB1 := Lib.hid hb1
    clear hb1 HA
    go_wp2
    go_ret
    exact ⟨rfl, HB1.out⟩
  · have t1 : decide ((60 : Int) < (a.length : Int)) = false := decide_eq_false (by omega)
    have t1' : decide (60 < a.length) = false := decide_eq_false ha
    have hb2 : 60 < b.length := by omega
    have t2 : decide ((60 : Int) < (b.length : Int)) = true := decide_eq_true (by omega)
    have t2' : decide (60 < b.length) = true := decide_eq_true hb2
    go_enter Try.func3, Try.ntmps3
    go_wp2_with fail
    refine (HA.out).mono ?_; rintro e w1 ⟨rfl, hb1⟩; (try dsimp only)
    have HB1 := Lib.hid hb1
    clear hb1 HA
    go_wp2
    go_ret
    exact ⟨rfl, HB1.out⟩

theorem par_okd {W : World} {v : Value} {l : List UInt8} {k : Nat} {p : Nat → Bool} {x y : Int} {L : List PT} (h : BS W v l) (hM : HM W) (hl : l.length ≤ 1000) (hR : RunE l (.exp 0 0 []) (.ok (.node k p x y L) l.length)) :
    Calls Try.prog 6 #[v] W fun e w' => ∃ ad cap, e = .returned (.tuple #[.agg (partA k p x y (.slice ad L.length cap)), .nilIface]) ∧ PVal w' W.heap.size (partA k p x y (.slice ad L.length cap)) (.node k p x y L) ∧ Below W.heap.size W w' := by
  have h1 := par_u h hM (by omega) _ hR
  have hT : topR l (.ok (.node k p x y L) l.length) = .ok (.node k p x y L) l.length := by
    unfold topR; rw [if_neg (by omega)]
    show (if _ then _ else _) = _
    rw [if_neg (by omega)]
  rw [hT] at h1
  refine h1.mono ?_
  rintro e w' ⟨cs, ev, rfl, ⟨rfl, hp⟩, hb⟩
  have hp' := hp
  cases hp with
  | mk _ _ _ _ _ ad cap blk css h0 h1 hc hs => exact ⟨ad, cap, rfl, hp', hb⟩
theorem par_badd {W : World} {v : Value} {l : List UInt8} {R : ER} {x c : Nat} (h : BS W v l) (hM : HM W) (hl : l.length ≤ 1000) (hR : RunE l (.exp 0 0 []) R) (hT : topR l R = .bad x c) :
    Calls Try.prog 6 #[v] W fun e w' => ∃ b, e = .returned (.tuple #[.agg zeroPA, .iface 47 (.pointer (some ⟨b, 0, none⟩))]) ∧ W.heap.size ≤ b ∧ FRow w' b x c ∧ Below W.heap.size W w' := by
  have h1 := par_u h hM (by omega) _ hR
  rw [hT] at h1
  refine h1.mono ?_
  rintro e w' ⟨cs, ev, rfl, ⟨rfl, b, rfl, hb1, hf⟩, hb⟩
  exact ⟨b, rfl, hb1, hf, hb⟩
theorem par_two {l : List UInt8} (hl : l.length ≤ 1000) : (∃ t, RunE l (.exp 0 0 []) (.ok t l.length)) ∨ (∃ R x c, RunE l (.exp 0 0 []) R ∧ topR l R = .bad x c) := by
  obtain ⟨R, hR⟩ := runE_ex l
  cases R with
  | bad x c => exact Or.inr ⟨_, x, c, hR, by unfold topR; rw [if_neg (by omega)]⟩
  | ok t n =>
    have a := runE_adv hR _ _ rfl (Nat.zero_le _)
    by_cases hn : n < l.length
    · refine Or.inr ⟨_, n, 4, hR, ?_⟩
      unfold topR; rw [if_neg (by omega)]
      show (if _ then _ else _) = _
      rw [if_pos hn]
    · obtain rfl : n = l.length := by omega
      exact Or.inl ⟨t, hR⟩
set_option maxRecDepth 100000 in
set_option maxHeartbeats 8000000 in
theorem jo_ea (a b : List UInt8) (va vb : Value) (w : World) (ha : BS w va a) (hb : BS w vb b) (hM : HM w) (h1 : a.length ≤ 60) (h2 : b.length ≤ 60) {Ra : ER} {xa ca : Nat} (hR : RunE a (.exp 0 0 []) Ra) (hT : topR a Ra = .bad xa ca) :
    Calls Try.prog 3 #[va, vb] w fun e w' => e = .returned (.bool true) ∧ Below w.heap.size w w' := by
  have HA := Lib.hid (awake4 w hM)
  have PA : Hid (∀ W, Below w.heap.size w W → Calls Try.prog 6 #[va] W fun e w' => ∃ b, e = .returned (.tuple #[.agg zeroPA, .iface 47 (.pointer (some ⟨b, 0, none⟩))]) ∧ W.heap.size ≤ b ∧ FRow w' b xa ca ∧ Below W.heap.size W w') :=
    fun W k => par_badd (ha.on k) (hM.on k) (by omega) hR hT
  have PB : Hid (∀ W, Below w.heap.size w W → Calls Try.prog 6 #[vb] W fun e w' => ∃ (k : Nat) (p : Nat → Bool) (x y : Int) (ad : Option Addr) (n cap : Nat) (ev : Value), e = .returned (.tuple #[.agg (partA k p x y (.slice ad n cap)), ev]) ∧ Below W.heap.size W w') := by
    intro W k
    rcases par_two (l := b) (by omega) with ⟨t, hr⟩ | ⟨R, x, c, hr, ht⟩
    · cases t with
      | node k1 p1 x1 y1 L1 =>
        refine (par_okd (hb.on k) (hM.on k) (by omega) hr).mono ?_
        rintro e w' ⟨ad, cap, rfl, _, hb⟩
        exact ⟨_, _, _, _, _, _, _, _, rfl, hb⟩
    · refine (par_badd (hb.on k) (hM.on k) (by omega) hr ht).mono ?_
      rintro e w' ⟨b, rfl, _, _, hb⟩
      exact ⟨0, nonP, 0, 0, none, 0, 0, _, by rw [zero_part], hb⟩
  clear hR hT
  obtain ⟨pa, ca', rfl, a4, a5, a6⟩ := ha
  obtain ⟨pb, cb, rfl, b4, b5, b6⟩ := hb
  clear a6 b6
  have t1 : decide ((60 : Int) < (a.length : Int)) = false := decide_eq_false (by omega)
  have t1' : decide (60 < a.length) = false := decide_eq_false (by omega)
  have t2 : decide ((60 : Int) < (b.length : Int)) = false := decide_eq_false (by omega)
  have t2' : decide (60 < b.length) = false := decide_eq_false (by omega)
  go_enter Try.func3, Try.ntmps3
  go_wp2_with fail
  refine (HA.out).mono ?_; rintro e w1 ⟨rfl, hb1⟩; (try dsimp only)
  have B1 := Lib.hid hb1
  clear hb1 HA
  go_wp2_with fail
  refine (PA.out _ B1.out).mono ?_; rintro e w2 ⟨b1, rfl, hg, hf, hb2⟩; (try dsimp only)
  have B2 : Hid (Below w.heap.size w w2) := below_on B1.out hb2
  clear hb2 PA hg hf
  go_upto_region 6 with fail
  have B3 : Hid (Below w.heap.size w (w2.alloc (.cells zeroPA 29))) := B2.out.alloc B2.out.size _
  generalize (w2.alloc (.cells zeroPA 29)) = w3 at *
  clear B2
  go_wp2_with fail
  refine (PB.out _ B3.out).mono ?_; rintro e w4 ⟨k, p, x, y, ad, n, cap, ev, rfl, hb4⟩; (try dsimp only)
  have B4 : Hid (Below w.heap.size w w4) := below_on B3.out hb4
  clear hb4 PB B3
  go_upto_region 7 with fail
  have B5 : Hid (Below w.heap.size w (w4.alloc (.cells (partA k p x y (.slice ad n cap)) 29))) := B4.out.alloc B4.out.size _
  generalize (w4.alloc (.cells (partA k p x y (.slice ad n cap)) 29)) = w5 at *
  clear B4
  go_wp2
  go_ret
  exact ⟨rfl, B5.out⟩
set_option maxRecDepth 100000 in
set_option maxHeartbeats 8000000 in
theorem jo_eb (a b : List UInt8) (va vb : Value) (w : World) (ha : BS w va a) (hb : BS w vb b) (hM : HM w) (h1 : a.length ≤ 60) (h2 : b.length ≤ 60) {ta : PT} (hta : RunE a (.exp 0 0 []) (.ok ta a.length)) {Rb : ER} {xb cb : Nat} (hR : RunE b (.exp 0 0 []) Rb) (hT : topR b Rb = .bad xb cb) :
    Calls Try.prog 3 #[va, vb] w fun e w' => e = .returned (.bool true) ∧ Below w.heap.size w w' := by
  have HA := Lib.hid (awake4 w hM)
  obtain ⟨k, p, x, y, L⟩ := ta
  have PA : Hid (∀ W, Below w.heap.size w W → Calls Try.prog 6 #[va] W fun e w' => ∃ ad cap, e = .returned (.tuple #[.agg (partA k p x y (.slice ad L.length cap)), .nilIface]) ∧ PVal w' W.heap.size (partA k p x y (.slice ad L.length cap)) (.node k p x y L) ∧ Below W.heap.size W w') :=
    fun W k => par_okd (ha.on k) (hM.on k) (by omega) hta
  have PB : Hid (∀ W, Below w.heap.size w W → Calls Try.prog 6 #[vb] W fun e w' => ∃ b, e = .returned (.tuple #[.agg zeroPA, .iface 47 (.pointer (some ⟨b, 0, none⟩))]) ∧ W.heap.size ≤ b ∧ FRow w' b xb cb ∧ Below W.heap.size W w') :=
    fun W k => par_badd (hb.on k) (hM.on k) (by omega) hR hT
  clear hR hT hta
  obtain ⟨pa, ca', rfl, a4, a5, a6⟩ := ha
  obtain ⟨pb, cb', rfl, b4, b5, b6⟩ := hb
  clear a6 b6
  have t1 : decide ((60 : Int) < (a.length : Int)) = false := decide_eq_false (by omega)
  have t1' : decide (60 < a.length) = false := decide_eq_false (by omega)
  have t2 : decide ((60 : Int) < (b.length : Int)) = false := decide_eq_false (by omega)
  have t2' : decide (60 < b.length) = false := decide_eq_false (by omega)
  go_enter Try.func3, Try.ntmps3
  go_wp2_with fail
  refine (HA.out).mono ?_; rintro e w1 ⟨rfl, hb1⟩; (try dsimp only)
  have B1 := Lib.hid hb1
  clear hb1 HA
  go_wp2_with fail
  refine (PA.out _ B1.out).mono ?_; rintro e w2 ⟨ad, cap, rfl, _, hb2⟩; (try dsimp only)
  have B2 : Hid (Below w.heap.size w w2) := below_on B1.out hb2
  clear hb2 PA
  go_upto_region 6 with fail
  have B3 : Hid (Below w.heap.size w (w2.alloc (.cells (partA k p x y (.slice ad L.length cap)) 29))) := B2.out.alloc B2.out.size _
  generalize (w2.alloc (.cells (partA k p x y (.slice ad L.length cap)) 29)) = w3 at *
  clear B2
  go_wp2_with fail
  refine (PB.out _ B3.out).mono ?_; rintro e w4 ⟨b1, rfl, _, _, hb4⟩; (try dsimp only)
  have B4 : Hid (Below w.heap.size w w4) := below_on B3.out hb4
  clear hb4 PB B3
  go_upto_region 7 with fail
  have B5 : Hid (Below w.heap.size w (w4.alloc (.cells zeroPA 29))) := B4.out.alloc B4.out.size _
  generalize (w4.alloc (.cells zeroPA 29)) = w5 at *
  clear B4
  go_wp2
  go_ret
  exact ⟨rfl, B5.out⟩
end Go.Proofs.Ytfmekmbdienbjaa
