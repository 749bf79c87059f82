/- Layer 4: the contract of sign. -/
import Derived.Test.YtfmekmbdienbjaaEreC
import Derived.Test.YtfmekmbdienbjaaLinD
import Derived.BigQuiet
namespace Go.Proofs.Ytfmekmbdienbjaa
set_option linter.unusedSimpArgs false
set_option linter.unusedVariables false
set_option linter.unnecessarySimpa false
open Go.RowKit

/-- The block of an error at a place. -/
abbrev FRow (w : World) (b a c : Nat) : Prop := Row w b 49 #[.int .i64 (a : Int), .iface 41 (.int .i64 (c : Int))]
/-- How sign ends. -/
def EndT (k : Nat) (r : SR) (w : World) (e : Ending) (w' : World) : Prop :=
  match r with
  | .none => e = .returned (.tuple #[.int .i64 0, .int .i64 0, .int .i64 0, .nilIface]) ∧ Below w.heap.size w w'
  | .some a b n => e = .returned (.tuple #[.int .i64 a, .int .i64 b, .int .i64 ((n : Int) - (k : Int)), .nilIface]) ∧ Below w.heap.size w w'
  | .bad => ∃ b, e = .returned (.tuple #[.int .i64 0, .int .i64 0, .int .i64 0, .iface 47 (.pointer (some ⟨b, 0, none⟩))]) ∧ w.heap.size ≤ b ∧ FRow w' b k 5 ∧ Below w.heap.size w w'
theorem isL_eq {l : List UInt8} {k : Nat} (hk : k < l.length) (c : UInt8) (n : Int) (hn : n = c.toNat) : (((l.getD k 0).toNat : Int) == n) = isL l k c := by
  unfold isL
  rw [decide_eq_true hk, Bool.true_and, hn]
  by_cases h : l.getD k 0 = c
  · rw [h]; simp
  · rw [beq_eq_false_iff_ne.2 h, beq_eq_false_iff_ne]
    intro e
    exact h (UInt8.toNat_inj.1 (by omega))

def SgnB (B k : Nat) (v : Value) (w : World) : Prop := ∃ b, v = .tuple #[.int .i64 0, .int .i64 0, .int .i64 0, .iface 47 (.pointer (some ⟨b, 0, none⟩))] ∧ B ≤ b ∧ FRow w b k 5
def FltB (B k : Nat) (v : Value) (w : World) : Prop := ∃ b, v = .iface 47 (.pointer (some ⟨b, 0, none⟩)) ∧ B ≤ b ∧ FRow w b k 5
def FltC (B a c : Nat) (v : Value) (w : World) : Prop := ∃ b, v = .iface 47 (.pointer (some ⟨b, 0, none⟩)) ∧ B ≤ b ∧ FRow w b a c
theorem FltC.on {B a c : Nat} {v : Value} {w w' : World} (h : FltC B a c v w) (hb : Below w.heap.size w w') : FltC B a c v w' := by obtain ⟨b, e, h1, h2⟩ := h; exact ⟨b, e, h1, h2.on hb⟩
def BrkC (B a c : Nat) (v : Value) (w : World) : Prop := ∃ b, v = .tuple #[zeroV, .int .i64 0, .iface 47 (.pointer (some ⟨b, 0, none⟩))] ∧ B ≤ b ∧ FRow w b a c
theorem BrkC.on {B a c : Nat} {v : Value} {w w' : World} (h : BrkC B a c v w) (hb : Below w.heap.size w w') : BrkC B a c v w' := by obtain ⟨b, e, h1, h2⟩ := h; exact ⟨b, e, h1, h2.on hb⟩
theorem SgnB.on {B k : Nat} {v : Value} {w w' : World} (h : SgnB B k v w) (hb : Below w.heap.size w w') : SgnB B k v w' := by obtain ⟨b, e, h1, h2⟩ := h; exact ⟨b, e, h1, h2.on hb⟩
theorem FltB.on {B k : Nat} {v : Value} {w w' : World} (h : FltB B k v w) (hb : Below w.heap.size w w') : FltB B k v w' := by obtain ⟨b, e, h1, h2⟩ := h; exact ⟨b, e, h1, h2.on hb⟩

set_option maxRecDepth 100000 in
set_option maxHeartbeats 8000000 in
theorem sgn_u {v : Value} {l : List UInt8} {w : World} (h : BS w v l) (hl : l.length ≤ 1000000000) (rb k o : Nat) (hk : k ≤ l.length)
    (hr : Row w rb 43 #[v, .int .i64 (k : Int), .int .i64 (o : Int)]) :
    Calls Try.prog 22 #[.pointer (some ⟨rb, 0, none⟩)] w fun e w' => EndT k (signL l k) w e w' := by
  have H := Lib.hid h
  obtain ⟨p, cp, rfl, hlc, hcm, hU⟩ := h
  have c0 : w.cell? ⟨rb, 0, none⟩ = some (.slice p l.length cp) := hr.cell 0
  have c1 : w.cell? ⟨rb, 1, none⟩ = some (.int .i64 (k : Int)) := hr.cell 1
  have hlt0 := hr.lt
  have HU := Lib.hid hU
  have HR := Lib.hid hr
  clear hU hr
  by_cases hlt : k < l.length
  · have t0 : ((k : Int) == (l.length : Int)) = false := by rw [beq_eq_false_iff_ne]; omega
    have k0 := HU.out
    clear HU
    obtain ⟨bk, off, rfl, hbb, hcs⟩ := k0 (by rintro rfl; simp at hlt)
    have k0 := hcs k hlt
    have h1 : (k : Int) < (l.length : Int) := by omega
    have h2 : (0 : Int) ≤ (k : Int) := by omega
    clear hcs
    have s43 := isL_eq hlt 43 43 rfl
    have s42 := isL_eq hlt 42 42 rfl
    have s63 := isL_eq hlt 63 63 rfl
    have s123 := isL_eq hlt 123 123 rfl
    unfold bv at k0
    generalize (l.getD k 0).toNat = x at *
    go_enter Try.func22, Try.ntmps22
    go_upto_region 1 with fail
    go_quiet (fail)
    obtain ⟨nqa, hnqa⟩ : ∃ x, x = nq := ⟨_, rfl⟩
    rw [← hnqa]
    clear hnqa nq
    go_wp2
    go_quiet (fail)
    have h1k : ((k + 1 : Nat) : Int) - (k : Int) = 1 := by omega
    cases h43 : isL l k 43
    · rw [h43] at s43
      cases h42 : isL l k 42
      · rw [h42] at s42
        cases h63 : isL l k 63
        · rw [h63] at s63
          cases h123 : isL l k 123
          · rw [h123] at s123
            have er : signL l k = .none := by unfold signL; simp only [h43, h42, h63, h123, if_true, if_false, Bool.false_eq_true]
            go_wp2
            refine bodyPost_ret (v := .tuple #[.int .i64 0, .int .i64 0, .int .i64 0, .nilIface]) (by simp [results, Try.results22, go_sem, *]) rfl ?_
            show EndT k (signL l k) w _ _
            rw [er]; unfold EndT; (try rw [h1k])
            first | exact ⟨rfl, below_drewN (Below.refl _ _) _⟩ | exact ⟨by rw [show ((k + 1 : Nat) : Int) - (k : Int) = 1 by omega], below_drewN (Below.refl _ _) _⟩
          · rw [h123] at s123
            have er : signL l k = itvL l k := by unfold signL; simp only [h43, h42, h63, h123, if_true, if_false, Bool.false_eq_true]
            have HRR := Lib.hid er
            have h2B : Below w.heap.size w ((w.drewN nqa).drewN nq) := below_drewN (below_drewN (Below.refl _ _) _) _
            have hr2 : Row ((w.drewN nqa).drewN nq) rb 43 #[.slice (some ⟨bk, off, none⟩) l.length cp, .int .i64 (k : Int), .int .i64 (o : Int)] := HR.out.on h2B
            have H2 := Lib.hid (H.out.on h2B)
            clear er c0 c1 k0 hlt0
            generalize ((w.drewN nqa).drewN nq) = w2 at *
            have c0 : w2.cell? ⟨rb, 0, none⟩ = some (.slice (some ⟨bk, off, none⟩) l.length cp) := hr2.cell 0
            have c1 : w2.cell? ⟨rb, 1, none⟩ = some (.int .i64 (k : Int)) := hr2.cell 1
            have hlt0 := hr2.lt
            have hbk : bk < w2.heap.size := Nat.lt_of_lt_of_le hbb h2B.size
            clear hr2
            cases hi : itvL l k with
            | none =>
              have HI : Hid (∀ W, Below w2.heap.size w2 W → Calls Try.prog 29 #[.slice (some ⟨bk, off, none⟩) l.length cp, .int .i64 (k : Int)] W fun e w' => e = .returned (.tuple #[.int .i64 0, .int .i64 0, .int .i64 0, .nilIface]) ∧ Below W.heap.size W w') := fun W hW => by
                have := itv_u (H2.out.on hW) hl k hlt
                rw [hi] at this
                exact this.mono (by rintro e w' ⟨rfl, rfl⟩; exact ⟨rfl, Below.refl _ _⟩)
              go_upto_region 11 with fail
              refine wp_region_keep (t := fun j => j) (al := fun _ => false) (loud := fun _ => false)
                (R := fun j v u w' => match j with
                  | 0 => v = .pointer (some ⟨rb, 0, none⟩)
                  | 1 => v = .pointer (some ⟨rb, 0, none⟩)
                  | 2 => v = .pointer (some ⟨rb, 0, none⟩)
                  | 3 => v = .slice (some ⟨bk, off, none⟩) l.length cp
                  | 4 => v = .pointer (some ⟨rb, 0, none⟩)
                  | 5 => v = .pointer (some ⟨rb, 0, none⟩)
                  | 6 => v = .pointer (some ⟨rb, 1, none⟩)
                  | 7 => v = .int .i64 (k : Int)
                  | 8 => v = .tuple #[.int .i64 0, .int .i64 0, .int .i64 0, .nilIface]
                  | 9 => v = .int .i64 0
                  | 10 => v = .int .i64 0
                  | 11 => v = .int .i64 0
                  | 12 => v = .nilIface
                  | 13 => v = .int .i64 0
                  | 14 => v = .int .i64 0
                  | 15 => v = .int .i64 0
                  | 16 => v = .nilIface
                  | _ => True) (by kernel_rfl) (by kernel_rfl) (by kernel_rfl) ?_ ?_ ?_ ?_
              · intro j v u w1_ w2_ h_ hF_ hB_
                (try dsimp only at h_ ⊢)
                split at h_ <;> first | (with_reducible exact h_) | (with_reducible exact NewR.on h_ hB_) | (with_reducible exact HasR.on h_ hB_) | exact IsNum.on h_ hB_ | exact HasNum.on h_ hB_ | exact RHeld.on h_ hB_ | trivial | exact h_
              · intro j v u w1_ h1_ h_
                cases h1_
              · intro vs
                simp only [putAll, Act.put, List.setIfInBounds_toArray, List.set_cons_zero, List.set_cons_succ, Nat.zero_add, Nat.reduceAdd]
                refine ⟨?_, ?_, ?_, ?_, ?_, ?_, ?_, ?_, ?_, ?_, ?_, ?_, ?_, ?_, ?_, ?_, ?_, trivial⟩
                · intro w0_ hF_ hd_ Q_ K_ hK_
                  have hc0_ := (bcell hF_).1
                  have hf0_ := (bcell hF_).2
                  have hz0_ := hF_.size; (try simp at hz0_)
                  (try simp at hc0_ hf0_)
                  have : rb < w0_.heap.size := by omega
                  simp only [DepsR, Region.binds, Nat.zero_add, Nat.reduceAdd, true_implies, Bool.false_eq_true, false_implies, and_true, true_and, BEq.rfl, reduceCtorEq] at hd_
                  go_simp
                  exact hK_.out _ _ _ (by first | rfl | (simp only [Act.put, List.setIfInBounds_toArray, List.set_cons_zero, List.set_cons_succ, hd_]; done) | (simp only [Act.put, List.setIfInBounds_toArray, List.set_cons_zero, List.set_cons_succ, hd_]; rfl)) (Below.refl _ _) rfl (fun h => by cases h)
                · intro w0_ hF_ hd_ Q_ K_ hK_
                  have hc0_ := (bcell hF_).1
                  have hf0_ := (bcell hF_).2
                  have hz0_ := hF_.size; (try simp at hz0_)
                  (try simp at hc0_ hf0_)
                  have : rb < w0_.heap.size := by omega
                  simp only [DepsR, Region.binds, Nat.zero_add, Nat.reduceAdd, true_implies, Bool.false_eq_true, false_implies, and_true, true_and, BEq.rfl, reduceCtorEq] at hd_
                  go_simp
                  exact hK_.out _ _ _ (by first | rfl | (simp only [Act.put, List.setIfInBounds_toArray, List.set_cons_zero, List.set_cons_succ, hd_]; done) | (simp only [Act.put, List.setIfInBounds_toArray, List.set_cons_zero, List.set_cons_succ, hd_]; rfl)) (Below.refl _ _) rfl (fun h => by cases h)
                · intro w0_ hF_ hd_ Q_ K_ hK_
                  have hc0_ := (bcell hF_).1
                  have hf0_ := (bcell hF_).2
                  have hz0_ := hF_.size; (try simp at hz0_)
                  (try simp at hc0_ hf0_)
                  have : rb < w0_.heap.size := by omega
                  simp only [DepsR, Region.binds, Nat.zero_add, Nat.reduceAdd, true_implies, Bool.false_eq_true, false_implies, and_true, true_and, BEq.rfl, reduceCtorEq] at hd_
                  go_simp
                  exact hK_.out _ _ _ (by first | rfl | (simp only [Act.put, List.setIfInBounds_toArray, List.set_cons_zero, List.set_cons_succ, hd_]; done) | (simp only [Act.put, List.setIfInBounds_toArray, List.set_cons_zero, List.set_cons_succ, hd_]; rfl)) (Below.refl _ _) rfl (fun h => by cases h)
                · intro w0_ hF_ hd_ Q_ K_ hK_
                  have hc0_ := (bcell hF_).1
                  have hf0_ := (bcell hF_).2
                  have hz0_ := hF_.size; (try simp at hz0_)
                  (try simp at hc0_ hf0_)
                  have : rb < w0_.heap.size := by omega
                  simp only [DepsR, Region.binds, Nat.zero_add, Nat.reduceAdd, true_implies, Bool.false_eq_true, false_implies, and_true, true_and, BEq.rfl, reduceCtorEq] at hd_
                  go_simp
                  exact hK_.out _ _ _ (by first | rfl | (simp only [Act.put, List.setIfInBounds_toArray, List.set_cons_zero, List.set_cons_succ, hd_]; done) | (simp only [Act.put, List.setIfInBounds_toArray, List.set_cons_zero, List.set_cons_succ, hd_]; rfl)) (Below.refl _ _) rfl (fun h => by cases h)
                · intro w0_ hF_ hd_ Q_ K_ hK_
                  have hc0_ := (bcell hF_).1
                  have hf0_ := (bcell hF_).2
                  have hz0_ := hF_.size; (try simp at hz0_)
                  (try simp at hc0_ hf0_)
                  have : rb < w0_.heap.size := by omega
                  simp only [DepsR, Region.binds, Nat.zero_add, Nat.reduceAdd, true_implies, Bool.false_eq_true, false_implies, and_true, true_and, BEq.rfl, reduceCtorEq] at hd_
                  go_simp
                  exact hK_.out _ _ _ (by first | rfl | (simp only [Act.put, List.setIfInBounds_toArray, List.set_cons_zero, List.set_cons_succ, hd_]; done) | (simp only [Act.put, List.setIfInBounds_toArray, List.set_cons_zero, List.set_cons_succ, hd_]; rfl)) (Below.refl _ _) rfl (fun h => by cases h)
                · intro w0_ hF_ hd_ Q_ K_ hK_
                  have hc0_ := (bcell hF_).1
                  have hf0_ := (bcell hF_).2
                  have hz0_ := hF_.size; (try simp at hz0_)
                  (try simp at hc0_ hf0_)
                  have : rb < w0_.heap.size := by omega
                  simp only [DepsR, Region.binds, Nat.zero_add, Nat.reduceAdd, true_implies, Bool.false_eq_true, false_implies, and_true, true_and, BEq.rfl, reduceCtorEq] at hd_
                  go_simp
                  exact hK_.out _ _ _ (by first | rfl | (simp only [Act.put, List.setIfInBounds_toArray, List.set_cons_zero, List.set_cons_succ, hd_]; done) | (simp only [Act.put, List.setIfInBounds_toArray, List.set_cons_zero, List.set_cons_succ, hd_]; rfl)) (Below.refl _ _) rfl (fun h => by cases h)
                · intro w0_ hF_ hd_ Q_ K_ hK_
                  have hc0_ := (bcell hF_).1
                  have hf0_ := (bcell hF_).2
                  have hz0_ := hF_.size; (try simp at hz0_)
                  (try simp at hc0_ hf0_)
                  have : rb < w0_.heap.size := by omega
                  simp only [DepsR, Region.binds, Nat.zero_add, Nat.reduceAdd, true_implies, Bool.false_eq_true, false_implies, and_true, true_and, BEq.rfl, reduceCtorEq] at hd_
                  go_simp
                  exact hK_.out _ _ _ (by first | rfl | (simp only [Act.put, List.setIfInBounds_toArray, List.set_cons_zero, List.set_cons_succ, hd_]; done) | (simp only [Act.put, List.setIfInBounds_toArray, List.set_cons_zero, List.set_cons_succ, hd_]; rfl)) (Below.refl _ _) rfl (fun h => by cases h)
                · intro w0_ hF_ hd_ Q_ K_ hK_
                  have hc0_ := (bcell hF_).1
                  have hf0_ := (bcell hF_).2
                  have hz0_ := hF_.size; (try simp at hz0_)
                  (try simp at hc0_ hf0_)
                  have : rb < w0_.heap.size := by omega
                  simp only [DepsR, Region.binds, Nat.zero_add, Nat.reduceAdd, true_implies, Bool.false_eq_true, false_implies, and_true, true_and, BEq.rfl, reduceCtorEq] at hd_
                  go_simp
                  exact hK_.out _ _ _ (by first | rfl | (simp only [Act.put, List.setIfInBounds_toArray, List.set_cons_zero, List.set_cons_succ, hd_]; done) | (simp only [Act.put, List.setIfInBounds_toArray, List.set_cons_zero, List.set_cons_succ, hd_]; rfl)) (Below.refl _ _) rfl (fun h => by cases h)
                · intro w0_ hF_ hd_ Q_ K_ hK_
                  have hc0_ := (bcell hF_).1
                  have hf0_ := (bcell hF_).2
                  have hz0_ := hF_.size; (try simp at hz0_)
                  (try simp at hc0_ hf0_)
                  have : rb < w0_.heap.size := by omega
                  simp only [DepsR, Region.binds, Nat.zero_add, Nat.reduceAdd, true_implies, Bool.false_eq_true, false_implies, and_true, true_and, BEq.rfl, reduceCtorEq] at hd_
                  go_simp
                  refine (HI.out _ hF_).mono ?_
                  rintro e_ w1_ ⟨rfl, hb_⟩
                  exact hK_.out _ _ _ (by first | rfl | (simp only [Act.put, List.setIfInBounds_toArray, List.set_cons_zero, List.set_cons_succ, hd_]; done) | (simp only [Act.put, List.setIfInBounds_toArray, List.set_cons_zero, List.set_cons_succ, hd_]; rfl)) hb_ rfl (fun h => by cases h)
                · intro w0_ hF_ hd_ Q_ K_ hK_
                  have hc0_ := (bcell hF_).1
                  have hf0_ := (bcell hF_).2
                  have hz0_ := hF_.size; (try simp at hz0_)
                  (try simp at hc0_ hf0_)
                  have : rb < w0_.heap.size := by omega
                  simp only [DepsR, Region.binds, Nat.zero_add, Nat.reduceAdd, true_implies, Bool.false_eq_true, false_implies, and_true, true_and, BEq.rfl, reduceCtorEq] at hd_
                  go_simp
                  exact hK_.out _ _ _ (by first | rfl | (simp only [Act.put, List.setIfInBounds_toArray, List.set_cons_zero, List.set_cons_succ, hd_]; done) | (simp only [Act.put, List.setIfInBounds_toArray, List.set_cons_zero, List.set_cons_succ, hd_]; rfl)) (Below.refl _ _) rfl (fun h => by cases h)
                · intro w0_ hF_ hd_ Q_ K_ hK_
                  have hc0_ := (bcell hF_).1
                  have hf0_ := (bcell hF_).2
                  have hz0_ := hF_.size; (try simp at hz0_)
                  (try simp at hc0_ hf0_)
                  have : rb < w0_.heap.size := by omega
                  simp only [DepsR, Region.binds, Nat.zero_add, Nat.reduceAdd, true_implies, Bool.false_eq_true, false_implies, and_true, true_and, BEq.rfl, reduceCtorEq] at hd_
                  go_simp
                  exact hK_.out _ _ _ (by first | rfl | (simp only [Act.put, List.setIfInBounds_toArray, List.set_cons_zero, List.set_cons_succ, hd_]; done) | (simp only [Act.put, List.setIfInBounds_toArray, List.set_cons_zero, List.set_cons_succ, hd_]; rfl)) (Below.refl _ _) rfl (fun h => by cases h)
                · intro w0_ hF_ hd_ Q_ K_ hK_
                  have hc0_ := (bcell hF_).1
                  have hf0_ := (bcell hF_).2
                  have hz0_ := hF_.size; (try simp at hz0_)
                  (try simp at hc0_ hf0_)
                  have : rb < w0_.heap.size := by omega
                  simp only [DepsR, Region.binds, Nat.zero_add, Nat.reduceAdd, true_implies, Bool.false_eq_true, false_implies, and_true, true_and, BEq.rfl, reduceCtorEq] at hd_
                  go_simp
                  exact hK_.out _ _ _ (by first | rfl | (simp only [Act.put, List.setIfInBounds_toArray, List.set_cons_zero, List.set_cons_succ, hd_]; done) | (simp only [Act.put, List.setIfInBounds_toArray, List.set_cons_zero, List.set_cons_succ, hd_]; rfl)) (Below.refl _ _) rfl (fun h => by cases h)
                · intro w0_ hF_ hd_ Q_ K_ hK_
                  have hc0_ := (bcell hF_).1
                  have hf0_ := (bcell hF_).2
                  have hz0_ := hF_.size; (try simp at hz0_)
                  (try simp at hc0_ hf0_)
                  have : rb < w0_.heap.size := by omega
                  simp only [DepsR, Region.binds, Nat.zero_add, Nat.reduceAdd, true_implies, Bool.false_eq_true, false_implies, and_true, true_and, BEq.rfl, reduceCtorEq] at hd_
                  go_simp
                  exact hK_.out _ _ _ (by first | rfl | (simp only [Act.put, List.setIfInBounds_toArray, List.set_cons_zero, List.set_cons_succ, hd_]; done) | (simp only [Act.put, List.setIfInBounds_toArray, List.set_cons_zero, List.set_cons_succ, hd_]; rfl)) (Below.refl _ _) rfl (fun h => by cases h)
                · intro w0_ hF_ hd_ Q_ K_ hK_
                  have hc0_ := (bcell hF_).1
                  have hf0_ := (bcell hF_).2
                  have hz0_ := hF_.size; (try simp at hz0_)
                  (try simp at hc0_ hf0_)
                  have : rb < w0_.heap.size := by omega
                  simp only [DepsR, Region.binds, Nat.zero_add, Nat.reduceAdd, true_implies, Bool.false_eq_true, false_implies, and_true, true_and, BEq.rfl, reduceCtorEq] at hd_
                  go_simp
                  exact hK_.out _ _ _ (by first | rfl | (simp only [Act.put, List.setIfInBounds_toArray, List.set_cons_zero, List.set_cons_succ, hd_]; done) | (simp only [Act.put, List.setIfInBounds_toArray, List.set_cons_zero, List.set_cons_succ, hd_]; rfl)) (Below.refl _ _) rfl (fun h => by cases h)
                · intro w0_ hF_ hd_ Q_ K_ hK_
                  have hc0_ := (bcell hF_).1
                  have hf0_ := (bcell hF_).2
                  have hz0_ := hF_.size; (try simp at hz0_)
                  (try simp at hc0_ hf0_)
                  have : rb < w0_.heap.size := by omega
                  simp only [DepsR, Region.binds, Nat.zero_add, Nat.reduceAdd, true_implies, Bool.false_eq_true, false_implies, and_true, true_and, BEq.rfl, reduceCtorEq] at hd_
                  go_simp
                  exact hK_.out _ _ _ (by first | rfl | (simp only [Act.put, List.setIfInBounds_toArray, List.set_cons_zero, List.set_cons_succ, hd_]; done) | (simp only [Act.put, List.setIfInBounds_toArray, List.set_cons_zero, List.set_cons_succ, hd_]; rfl)) (Below.refl _ _) rfl (fun h => by cases h)
                · intro w0_ hF_ hd_ Q_ K_ hK_
                  have hc0_ := (bcell hF_).1
                  have hf0_ := (bcell hF_).2
                  have hz0_ := hF_.size; (try simp at hz0_)
                  (try simp at hc0_ hf0_)
                  have : rb < w0_.heap.size := by omega
                  simp only [DepsR, Region.binds, Nat.zero_add, Nat.reduceAdd, true_implies, Bool.false_eq_true, false_implies, and_true, true_and, BEq.rfl, reduceCtorEq] at hd_
                  go_simp
                  exact hK_.out _ _ _ (by first | rfl | (simp only [Act.put, List.setIfInBounds_toArray, List.set_cons_zero, List.set_cons_succ, hd_]; done) | (simp only [Act.put, List.setIfInBounds_toArray, List.set_cons_zero, List.set_cons_succ, hd_]; rfl)) (Below.refl _ _) rfl (fun h => by cases h)
                · intro w0_ hF_ hd_ Q_ K_ hK_
                  have hc0_ := (bcell hF_).1
                  have hf0_ := (bcell hF_).2
                  have hz0_ := hF_.size; (try simp at hz0_)
                  (try simp at hc0_ hf0_)
                  have : rb < w0_.heap.size := by omega
                  simp only [DepsR, Region.binds, Nat.zero_add, Nat.reduceAdd, true_implies, Bool.false_eq_true, false_implies, and_true, true_and, BEq.rfl, reduceCtorEq] at hd_
                  go_simp
                  exact hK_.out _ _ _ (by first | rfl | (simp only [Act.put, List.setIfInBounds_toArray, List.set_cons_zero, List.set_cons_succ, hd_]; done) | (simp only [Act.put, List.setIfInBounds_toArray, List.set_cons_zero, List.set_cons_succ, hd_]; rfl)) (Below.refl _ _) rfl (fun h => by cases h)
              · intro vs w3 hBw3 hA_ hD_
                simp only [AllR, Nat.zero_add, Nat.reduceAdd, and_true] at hA_
                obtain ⟨r0_, r1_, r2_, r3_, r4_, r5_, r6_, r7_, r8_, r9_, r10_, r11_, r12_, r13_, r14_, r15_, r16_⟩ := hA_
                clear hD_
                simp only [putAll, Act.put, List.setIfInBounds_toArray, List.set_cons_zero, List.set_cons_succ, Nat.zero_add, Nat.reduceAdd, r0_, r1_, r2_, r3_, r4_, r5_, r6_, r7_, r8_, r9_, r10_, r11_, r12_, r13_, r14_, r15_, r16_]
                clear r0_ r1_ r2_ r3_ r4_ r5_ r6_ r7_ r8_ r9_ r10_ r11_ r12_ r13_ r14_ r15_ r16_
                obtain ⟨hcw3, hfw3⟩ := bcell hBw3; (try simp only [World.size_drew, World.cell?_drew, World.frozen?_drew] at hcw3 hfw3); have hzw3 := hBw3.size; (try simp at hzw3)
                have : rb < w3.heap.size := by omega
                go_wp2
                refine bodyPost_ret (v := .tuple #[.int .i64 0, .int .i64 0, .int .i64 0, .nilIface]) (by simp [results, Try.results22, go_sem, *]) rfl ?_
                show EndT k (signL l k) w _ _
                rw [HRR.out, hi]
                exact ⟨rfl, h2B.trans (hBw3.mono h2B.size)⟩
            | some a b n =>
              have HI : Hid (∀ W, Below w2.heap.size w2 W → Calls Try.prog 29 #[.slice (some ⟨bk, off, none⟩) l.length cp, .int .i64 (k : Int)] W fun e w' => e = .returned (.tuple #[.int .i64 a, .int .i64 b, .int .i64 ((n : Int) - (k : Int)), .nilIface]) ∧ Below W.heap.size W w') := fun W hW => by
                have := itv_u (H2.out.on hW) hl k hlt
                rw [hi] at this
                exact this.mono (by rintro e w' ⟨rfl, rfl⟩; exact ⟨rfl, Below.refl _ _⟩)
              go_upto_region 11 with fail
              refine wp_region_keep (t := fun j => j) (al := fun _ => false) (loud := fun _ => false)
                (R := fun j v u w' => match j with
                  | 0 => v = .pointer (some ⟨rb, 0, none⟩)
                  | 1 => v = .pointer (some ⟨rb, 0, none⟩)
                  | 2 => v = .pointer (some ⟨rb, 0, none⟩)
                  | 3 => v = .slice (some ⟨bk, off, none⟩) l.length cp
                  | 4 => v = .pointer (some ⟨rb, 0, none⟩)
                  | 5 => v = .pointer (some ⟨rb, 0, none⟩)
                  | 6 => v = .pointer (some ⟨rb, 1, none⟩)
                  | 7 => v = .int .i64 (k : Int)
                  | 8 => v = .tuple #[.int .i64 a, .int .i64 b, .int .i64 ((n : Int) - (k : Int)), .nilIface]
                  | 9 => v = .int .i64 a
                  | 10 => v = .int .i64 b
                  | 11 => v = .int .i64 ((n : Int) - (k : Int))
                  | 12 => v = .nilIface
                  | 13 => v = .int .i64 a
                  | 14 => v = .int .i64 b
                  | 15 => v = .int .i64 ((n : Int) - (k : Int))
                  | 16 => v = .nilIface
                  | _ => True) (by kernel_rfl) (by kernel_rfl) (by kernel_rfl) ?_ ?_ ?_ ?_
              · intro j v u w1_ w2_ h_ hF_ hB_
                (try dsimp only at h_ ⊢)
                split at h_ <;> first | (with_reducible exact h_) | (with_reducible exact NewR.on h_ hB_) | (with_reducible exact HasR.on h_ hB_) | exact IsNum.on h_ hB_ | exact HasNum.on h_ hB_ | exact RHeld.on h_ hB_ | trivial | exact h_
              · intro j v u w1_ h1_ h_
                cases h1_
              · intro vs
                simp only [putAll, Act.put, List.setIfInBounds_toArray, List.set_cons_zero, List.set_cons_succ, Nat.zero_add, Nat.reduceAdd]
                refine ⟨?_, ?_, ?_, ?_, ?_, ?_, ?_, ?_, ?_, ?_, ?_, ?_, ?_, ?_, ?_, ?_, ?_, trivial⟩
                · intro w0_ hF_ hd_ Q_ K_ hK_
                  have hc0_ := (bcell hF_).1
                  have hf0_ := (bcell hF_).2
                  have hz0_ := hF_.size; (try simp at hz0_)
                  (try simp at hc0_ hf0_)
                  have : rb < w0_.heap.size := by omega
                  simp only [DepsR, Region.binds, Nat.zero_add, Nat.reduceAdd, true_implies, Bool.false_eq_true, false_implies, and_true, true_and, BEq.rfl, reduceCtorEq] at hd_
                  go_simp
                  exact hK_.out _ _ _ (by first | rfl | (simp only [Act.put, List.setIfInBounds_toArray, List.set_cons_zero, List.set_cons_succ, hd_]; done) | (simp only [Act.put, List.setIfInBounds_toArray, List.set_cons_zero, List.set_cons_succ, hd_]; rfl)) (Below.refl _ _) rfl (fun h => by cases h)
                · intro w0_ hF_ hd_ Q_ K_ hK_
                  have hc0_ := (bcell hF_).1
                  have hf0_ := (bcell hF_).2
                  have hz0_ := hF_.size; (try simp at hz0_)
                  (try simp at hc0_ hf0_)
                  have : rb < w0_.heap.size := by omega
                  simp only [DepsR, Region.binds, Nat.zero_add, Nat.reduceAdd, true_implies, Bool.false_eq_true, false_implies, and_true, true_and, BEq.rfl, reduceCtorEq] at hd_
                  go_simp
                  exact hK_.out _ _ _ (by first | rfl | (simp only [Act.put, List.setIfInBounds_toArray, List.set_cons_zero, List.set_cons_succ, hd_]; done) | (simp only [Act.put, List.setIfInBounds_toArray, List.set_cons_zero, List.set_cons_succ, hd_]; rfl)) (Below.refl _ _) rfl (fun h => by cases h)
                · intro w0_ hF_ hd_ Q_ K_ hK_
                  have hc0_ := (bcell hF_).1
                  have hf0_ := (bcell hF_).2
                  have hz0_ := hF_.size; (try simp at hz0_)
                  (try simp at hc0_ hf0_)
                  have : rb < w0_.heap.size := by omega
                  simp only [DepsR, Region.binds, Nat.zero_add, Nat.reduceAdd, true_implies, Bool.false_eq_true, false_implies, and_true, true_and, BEq.rfl, reduceCtorEq] at hd_
                  go_simp
                  exact hK_.out _ _ _ (by first | rfl | (simp only [Act.put, List.setIfInBounds_toArray, List.set_cons_zero, List.set_cons_succ, hd_]; done) | (simp only [Act.put, List.setIfInBounds_toArray, List.set_cons_zero, List.set_cons_succ, hd_]; rfl)) (Below.refl _ _) rfl (fun h => by cases h)
                · intro w0_ hF_ hd_ Q_ K_ hK_
                  have hc0_ := (bcell hF_).1
                  have hf0_ := (bcell hF_).2
                  have hz0_ := hF_.size; (try simp at hz0_)
                  (try simp at hc0_ hf0_)
                  have : rb < w0_.heap.size := by omega
                  simp only [DepsR, Region.binds, Nat.zero_add, Nat.reduceAdd, true_implies, Bool.false_eq_true, false_implies, and_true, true_and, BEq.rfl, reduceCtorEq] at hd_
                  go_simp
                  exact hK_.out _ _ _ (by first | rfl | (simp only [Act.put, List.setIfInBounds_toArray, List.set_cons_zero, List.set_cons_succ, hd_]; done) | (simp only [Act.put, List.setIfInBounds_toArray, List.set_cons_zero, List.set_cons_succ, hd_]; rfl)) (Below.refl _ _) rfl (fun h => by cases h)
                · intro w0_ hF_ hd_ Q_ K_ hK_
                  have hc0_ := (bcell hF_).1
                  have hf0_ := (bcell hF_).2
                  have hz0_ := hF_.size; (try simp at hz0_)
                  (try simp at hc0_ hf0_)
                  have : rb < w0_.heap.size := by omega
                  simp only [DepsR, Region.binds, Nat.zero_add, Nat.reduceAdd, true_implies, Bool.false_eq_true, false_implies, and_true, true_and, BEq.rfl, reduceCtorEq] at hd_
                  go_simp
                  exact hK_.out _ _ _ (by first | rfl | (simp only [Act.put, List.setIfInBounds_toArray, List.set_cons_zero, List.set_cons_succ, hd_]; done) | (simp only [Act.put, List.setIfInBounds_toArray, List.set_cons_zero, List.set_cons_succ, hd_]; rfl)) (Below.refl _ _) rfl (fun h => by cases h)
                · intro w0_ hF_ hd_ Q_ K_ hK_
                  have hc0_ := (bcell hF_).1
                  have hf0_ := (bcell hF_).2
                  have hz0_ := hF_.size; (try simp at hz0_)
                  (try simp at hc0_ hf0_)
                  have : rb < w0_.heap.size := by omega
                  simp only [DepsR, Region.binds, Nat.zero_add, Nat.reduceAdd, true_implies, Bool.false_eq_true, false_implies, and_true, true_and, BEq.rfl, reduceCtorEq] at hd_
                  go_simp
                  exact hK_.out _ _ _ (by first | rfl | (simp only [Act.put, List.setIfInBounds_toArray, List.set_cons_zero, List.set_cons_succ, hd_]; done) | (simp only [Act.put, List.setIfInBounds_toArray, List.set_cons_zero, List.set_cons_succ, hd_]; rfl)) (Below.refl _ _) rfl (fun h => by cases h)
                · intro w0_ hF_ hd_ Q_ K_ hK_
                  have hc0_ := (bcell hF_).1
                  have hf0_ := (bcell hF_).2
                  have hz0_ := hF_.size; (try simp at hz0_)
                  (try simp at hc0_ hf0_)
                  have : rb < w0_.heap.size := by omega
                  simp only [DepsR, Region.binds, Nat.zero_add, Nat.reduceAdd, true_implies, Bool.false_eq_true, false_implies, and_true, true_and, BEq.rfl, reduceCtorEq] at hd_
                  go_simp
                  exact hK_.out _ _ _ (by first | rfl | (simp only [Act.put, List.setIfInBounds_toArray, List.set_cons_zero, List.set_cons_succ, hd_]; done) | (simp only [Act.put, List.setIfInBounds_toArray, List.set_cons_zero, List.set_cons_succ, hd_]; rfl)) (Below.refl _ _) rfl (fun h => by cases h)
                · intro w0_ hF_ hd_ Q_ K_ hK_
                  have hc0_ := (bcell hF_).1
                  have hf0_ := (bcell hF_).2
                  have hz0_ := hF_.size; (try simp at hz0_)
                  (try simp at hc0_ hf0_)
                  have : rb < w0_.heap.size := by omega
                  simp only [DepsR, Region.binds, Nat.zero_add, Nat.reduceAdd, true_implies, Bool.false_eq_true, false_implies, and_true, true_and, BEq.rfl, reduceCtorEq] at hd_
                  go_simp
                  exact hK_.out _ _ _ (by first | rfl | (simp only [Act.put, List.setIfInBounds_toArray, List.set_cons_zero, List.set_cons_succ, hd_]; done) | (simp only [Act.put, List.setIfInBounds_toArray, List.set_cons_zero, List.set_cons_succ, hd_]; rfl)) (Below.refl _ _) rfl (fun h => by cases h)
                · intro w0_ hF_ hd_ Q_ K_ hK_
                  have hc0_ := (bcell hF_).1
                  have hf0_ := (bcell hF_).2
                  have hz0_ := hF_.size; (try simp at hz0_)
                  (try simp at hc0_ hf0_)
                  have : rb < w0_.heap.size := by omega
                  simp only [DepsR, Region.binds, Nat.zero_add, Nat.reduceAdd, true_implies, Bool.false_eq_true, false_implies, and_true, true_and, BEq.rfl, reduceCtorEq] at hd_
                  go_simp
                  refine (HI.out _ hF_).mono ?_
                  rintro e_ w1_ ⟨rfl, hb_⟩
                  exact hK_.out _ _ _ (by first | rfl | (simp only [Act.put, List.setIfInBounds_toArray, List.set_cons_zero, List.set_cons_succ, hd_]; done) | (simp only [Act.put, List.setIfInBounds_toArray, List.set_cons_zero, List.set_cons_succ, hd_]; rfl)) hb_ rfl (fun h => by cases h)
                · intro w0_ hF_ hd_ Q_ K_ hK_
                  have hc0_ := (bcell hF_).1
                  have hf0_ := (bcell hF_).2
                  have hz0_ := hF_.size; (try simp at hz0_)
                  (try simp at hc0_ hf0_)
                  have : rb < w0_.heap.size := by omega
                  simp only [DepsR, Region.binds, Nat.zero_add, Nat.reduceAdd, true_implies, Bool.false_eq_true, false_implies, and_true, true_and, BEq.rfl, reduceCtorEq] at hd_
                  go_simp
                  exact hK_.out _ _ _ (by first | rfl | (simp only [Act.put, List.setIfInBounds_toArray, List.set_cons_zero, List.set_cons_succ, hd_]; done) | (simp only [Act.put, List.setIfInBounds_toArray, List.set_cons_zero, List.set_cons_succ, hd_]; rfl)) (Below.refl _ _) rfl (fun h => by cases h)
                · intro w0_ hF_ hd_ Q_ K_ hK_
                  have hc0_ := (bcell hF_).1
                  have hf0_ := (bcell hF_).2
                  have hz0_ := hF_.size; (try simp at hz0_)
                  (try simp at hc0_ hf0_)
                  have : rb < w0_.heap.size := by omega
                  simp only [DepsR, Region.binds, Nat.zero_add, Nat.reduceAdd, true_implies, Bool.false_eq_true, false_implies, and_true, true_and, BEq.rfl, reduceCtorEq] at hd_
                  go_simp
                  exact hK_.out _ _ _ (by first | rfl | (simp only [Act.put, List.setIfInBounds_toArray, List.set_cons_zero, List.set_cons_succ, hd_]; done) | (simp only [Act.put, List.setIfInBounds_toArray, List.set_cons_zero, List.set_cons_succ, hd_]; rfl)) (Below.refl _ _) rfl (fun h => by cases h)
                · intro w0_ hF_ hd_ Q_ K_ hK_
                  have hc0_ := (bcell hF_).1
                  have hf0_ := (bcell hF_).2
                  have hz0_ := hF_.size; (try simp at hz0_)
                  (try simp at hc0_ hf0_)
                  have : rb < w0_.heap.size := by omega
                  simp only [DepsR, Region.binds, Nat.zero_add, Nat.reduceAdd, true_implies, Bool.false_eq_true, false_implies, and_true, true_and, BEq.rfl, reduceCtorEq] at hd_
                  go_simp
                  exact hK_.out _ _ _ (by first | rfl | (simp only [Act.put, List.setIfInBounds_toArray, List.set_cons_zero, List.set_cons_succ, hd_]; done) | (simp only [Act.put, List.setIfInBounds_toArray, List.set_cons_zero, List.set_cons_succ, hd_]; rfl)) (Below.refl _ _) rfl (fun h => by cases h)
                · intro w0_ hF_ hd_ Q_ K_ hK_
                  have hc0_ := (bcell hF_).1
                  have hf0_ := (bcell hF_).2
                  have hz0_ := hF_.size; (try simp at hz0_)
                  (try simp at hc0_ hf0_)
                  have : rb < w0_.heap.size := by omega
                  simp only [DepsR, Region.binds, Nat.zero_add, Nat.reduceAdd, true_implies, Bool.false_eq_true, false_implies, and_true, true_and, BEq.rfl, reduceCtorEq] at hd_
                  go_simp
                  exact hK_.out _ _ _ (by first | rfl | (simp only [Act.put, List.setIfInBounds_toArray, List.set_cons_zero, List.set_cons_succ, hd_]; done) | (simp only [Act.put, List.setIfInBounds_toArray, List.set_cons_zero, List.set_cons_succ, hd_]; rfl)) (Below.refl _ _) rfl (fun h => by cases h)
                · intro w0_ hF_ hd_ Q_ K_ hK_
                  have hc0_ := (bcell hF_).1
                  have hf0_ := (bcell hF_).2
                  have hz0_ := hF_.size; (try simp at hz0_)
                  (try simp at hc0_ hf0_)
                  have : rb < w0_.heap.size := by omega
                  simp only [DepsR, Region.binds, Nat.zero_add, Nat.reduceAdd, true_implies, Bool.false_eq_true, false_implies, and_true, true_and, BEq.rfl, reduceCtorEq] at hd_
                  go_simp
                  exact hK_.out _ _ _ (by first | rfl | (simp only [Act.put, List.setIfInBounds_toArray, List.set_cons_zero, List.set_cons_succ, hd_]; done) | (simp only [Act.put, List.setIfInBounds_toArray, List.set_cons_zero, List.set_cons_succ, hd_]; rfl)) (Below.refl _ _) rfl (fun h => by cases h)
                · intro w0_ hF_ hd_ Q_ K_ hK_
                  have hc0_ := (bcell hF_).1
                  have hf0_ := (bcell hF_).2
                  have hz0_ := hF_.size; (try simp at hz0_)
                  (try simp at hc0_ hf0_)
                  have : rb < w0_.heap.size := by omega
                  simp only [DepsR, Region.binds, Nat.zero_add, Nat.reduceAdd, true_implies, Bool.false_eq_true, false_implies, and_true, true_and, BEq.rfl, reduceCtorEq] at hd_
                  go_simp
                  exact hK_.out _ _ _ (by first | rfl | (simp only [Act.put, List.setIfInBounds_toArray, List.set_cons_zero, List.set_cons_succ, hd_]; done) | (simp only [Act.put, List.setIfInBounds_toArray, List.set_cons_zero, List.set_cons_succ, hd_]; rfl)) (Below.refl _ _) rfl (fun h => by cases h)
                · intro w0_ hF_ hd_ Q_ K_ hK_
                  have hc0_ := (bcell hF_).1
                  have hf0_ := (bcell hF_).2
                  have hz0_ := hF_.size; (try simp at hz0_)
                  (try simp at hc0_ hf0_)
                  have : rb < w0_.heap.size := by omega
                  simp only [DepsR, Region.binds, Nat.zero_add, Nat.reduceAdd, true_implies, Bool.false_eq_true, false_implies, and_true, true_and, BEq.rfl, reduceCtorEq] at hd_
                  go_simp
                  exact hK_.out _ _ _ (by first | rfl | (simp only [Act.put, List.setIfInBounds_toArray, List.set_cons_zero, List.set_cons_succ, hd_]; done) | (simp only [Act.put, List.setIfInBounds_toArray, List.set_cons_zero, List.set_cons_succ, hd_]; rfl)) (Below.refl _ _) rfl (fun h => by cases h)
                · intro w0_ hF_ hd_ Q_ K_ hK_
                  have hc0_ := (bcell hF_).1
                  have hf0_ := (bcell hF_).2
                  have hz0_ := hF_.size; (try simp at hz0_)
                  (try simp at hc0_ hf0_)
                  have : rb < w0_.heap.size := by omega
                  simp only [DepsR, Region.binds, Nat.zero_add, Nat.reduceAdd, true_implies, Bool.false_eq_true, false_implies, and_true, true_and, BEq.rfl, reduceCtorEq] at hd_
                  go_simp
                  exact hK_.out _ _ _ (by first | rfl | (simp only [Act.put, List.setIfInBounds_toArray, List.set_cons_zero, List.set_cons_succ, hd_]; done) | (simp only [Act.put, List.setIfInBounds_toArray, List.set_cons_zero, List.set_cons_succ, hd_]; rfl)) (Below.refl _ _) rfl (fun h => by cases h)
              · intro vs w3 hBw3 hA_ hD_
                simp only [AllR, Nat.zero_add, Nat.reduceAdd, and_true] at hA_
                obtain ⟨r0_, r1_, r2_, r3_, r4_, r5_, r6_, r7_, r8_, r9_, r10_, r11_, r12_, r13_, r14_, r15_, r16_⟩ := hA_
                clear hD_
                simp only [putAll, Act.put, List.setIfInBounds_toArray, List.set_cons_zero, List.set_cons_succ, Nat.zero_add, Nat.reduceAdd, r0_, r1_, r2_, r3_, r4_, r5_, r6_, r7_, r8_, r9_, r10_, r11_, r12_, r13_, r14_, r15_, r16_]
                clear r0_ r1_ r2_ r3_ r4_ r5_ r6_ r7_ r8_ r9_ r10_ r11_ r12_ r13_ r14_ r15_ r16_
                obtain ⟨hcw3, hfw3⟩ := bcell hBw3; (try simp only [World.size_drew, World.cell?_drew, World.frozen?_drew] at hcw3 hfw3); have hzw3 := hBw3.size; (try simp at hzw3)
                have : rb < w3.heap.size := by omega
                go_wp2
                refine bodyPost_ret (v := .tuple #[.int .i64 a, .int .i64 b, .int .i64 ((n : Int) - (k : Int)), .nilIface]) (by simp [results, Try.results22, go_sem, *]) rfl ?_
                show EndT k (signL l k) w _ _
                rw [HRR.out, hi]
                exact ⟨rfl, h2B.trans (hBw3.mono h2B.size)⟩
            | bad =>
              have HI : Hid (∀ W, Below w2.heap.size w2 W → Calls Try.prog 29 #[.slice (some ⟨bk, off, none⟩) l.length cp, .int .i64 (k : Int)] W fun e w' => ∃ v, e = .returned v ∧ SgnB w2.heap.size k v w' ∧ Below W.heap.size W w') := fun W hW => by
                have := itv_u (H2.out.on hW) hl k hlt
                rw [hi] at this
                exact this.mono (by rintro e w' ⟨rfl, rfl⟩; exact ⟨_, rfl, ⟨_, rfl, hW.size, Row.new _ _ _⟩, (Below.refl _ _).alloc (Nat.le_refl _) _⟩)
              go_upto_region 11 with fail
              refine wp_region_keep (t := fun j => j) (al := fun _ => false) (loud := fun _ => false)
                (R := fun j v u w' => match j with
                  | 0 => v = .pointer (some ⟨rb, 0, none⟩)
                  | 1 => v = .pointer (some ⟨rb, 0, none⟩)
                  | 2 => v = .pointer (some ⟨rb, 0, none⟩)
                  | 3 => v = .slice (some ⟨bk, off, none⟩) l.length cp
                  | 4 => v = .pointer (some ⟨rb, 0, none⟩)
                  | 5 => v = .pointer (some ⟨rb, 0, none⟩)
                  | 6 => v = .pointer (some ⟨rb, 1, none⟩)
                  | 7 => v = .int .i64 (k : Int)
                  | 8 => SgnB w2.heap.size k v w'
                  | 9 => v = .int .i64 0
                  | 10 => v = .int .i64 0
                  | 11 => v = .int .i64 0
                  | 12 => FltB w2.heap.size k v w'
                  | 13 => v = .int .i64 0
                  | 14 => v = .int .i64 0
                  | 15 => v = .int .i64 0
                  | 16 => FltB w2.heap.size k v w'
                  | _ => True) (by kernel_rfl) (by kernel_rfl) (by kernel_rfl) ?_ ?_ ?_ ?_
              · intro j v u w1_ w2_ h_ hF_ hB_
                (try dsimp only at h_ ⊢)
                split at h_ <;> first | (with_reducible exact h_) | (with_reducible exact NewR.on h_ hB_) | (with_reducible exact HasR.on h_ hB_) | exact IsNum.on h_ hB_ | exact HasNum.on h_ hB_ | exact RHeld.on h_ hB_ | (first | exact SgnB.on h_ hB_ | exact FltB.on h_ hB_) | trivial | exact h_
              · intro j v u w1_ h1_ h_
                cases h1_
              · intro vs
                simp only [putAll, Act.put, List.setIfInBounds_toArray, List.set_cons_zero, List.set_cons_succ, Nat.zero_add, Nat.reduceAdd]
                refine ⟨?_, ?_, ?_, ?_, ?_, ?_, ?_, ?_, ?_, ?_, ?_, ?_, ?_, ?_, ?_, ?_, ?_, trivial⟩
                · intro w0_ hF_ hd_ Q_ K_ hK_
                  have hc0_ := (bcell hF_).1
                  have hf0_ := (bcell hF_).2
                  have hz0_ := hF_.size; (try simp at hz0_)
                  (try simp at hc0_ hf0_)
                  have : rb < w0_.heap.size := by omega
                  simp only [DepsR, Region.binds, Nat.zero_add, Nat.reduceAdd, true_implies, Bool.false_eq_true, false_implies, and_true, true_and, BEq.rfl, reduceCtorEq] at hd_
                  go_simp
                  exact hK_.out _ _ _ (by first | rfl | (simp only [Act.put, List.setIfInBounds_toArray, List.set_cons_zero, List.set_cons_succ, hd_]; done) | (simp only [Act.put, List.setIfInBounds_toArray, List.set_cons_zero, List.set_cons_succ, hd_]; rfl)) (Below.refl _ _) rfl (fun h => by cases h)
                · intro w0_ hF_ hd_ Q_ K_ hK_
                  have hc0_ := (bcell hF_).1
                  have hf0_ := (bcell hF_).2
                  have hz0_ := hF_.size; (try simp at hz0_)
                  (try simp at hc0_ hf0_)
                  have : rb < w0_.heap.size := by omega
                  simp only [DepsR, Region.binds, Nat.zero_add, Nat.reduceAdd, true_implies, Bool.false_eq_true, false_implies, and_true, true_and, BEq.rfl, reduceCtorEq] at hd_
                  go_simp
                  exact hK_.out _ _ _ (by first | rfl | (simp only [Act.put, List.setIfInBounds_toArray, List.set_cons_zero, List.set_cons_succ, hd_]; done) | (simp only [Act.put, List.setIfInBounds_toArray, List.set_cons_zero, List.set_cons_succ, hd_]; rfl)) (Below.refl _ _) rfl (fun h => by cases h)
                · intro w0_ hF_ hd_ Q_ K_ hK_
                  have hc0_ := (bcell hF_).1
                  have hf0_ := (bcell hF_).2
                  have hz0_ := hF_.size; (try simp at hz0_)
                  (try simp at hc0_ hf0_)
                  have : rb < w0_.heap.size := by omega
                  simp only [DepsR, Region.binds, Nat.zero_add, Nat.reduceAdd, true_implies, Bool.false_eq_true, false_implies, and_true, true_and, BEq.rfl, reduceCtorEq] at hd_
                  go_simp
                  exact hK_.out _ _ _ (by first | rfl | (simp only [Act.put, List.setIfInBounds_toArray, List.set_cons_zero, List.set_cons_succ, hd_]; done) | (simp only [Act.put, List.setIfInBounds_toArray, List.set_cons_zero, List.set_cons_succ, hd_]; rfl)) (Below.refl _ _) rfl (fun h => by cases h)
                · intro w0_ hF_ hd_ Q_ K_ hK_
                  have hc0_ := (bcell hF_).1
                  have hf0_ := (bcell hF_).2
                  have hz0_ := hF_.size; (try simp at hz0_)
                  (try simp at hc0_ hf0_)
                  have : rb < w0_.heap.size := by omega
                  simp only [DepsR, Region.binds, Nat.zero_add, Nat.reduceAdd, true_implies, Bool.false_eq_true, false_implies, and_true, true_and, BEq.rfl, reduceCtorEq] at hd_
                  go_simp
                  exact hK_.out _ _ _ (by first | rfl | (simp only [Act.put, List.setIfInBounds_toArray, List.set_cons_zero, List.set_cons_succ, hd_]; done) | (simp only [Act.put, List.setIfInBounds_toArray, List.set_cons_zero, List.set_cons_succ, hd_]; rfl)) (Below.refl _ _) rfl (fun h => by cases h)
                · intro w0_ hF_ hd_ Q_ K_ hK_
                  have hc0_ := (bcell hF_).1
                  have hf0_ := (bcell hF_).2
                  have hz0_ := hF_.size; (try simp at hz0_)
                  (try simp at hc0_ hf0_)
                  have : rb < w0_.heap.size := by omega
                  simp only [DepsR, Region.binds, Nat.zero_add, Nat.reduceAdd, true_implies, Bool.false_eq_true, false_implies, and_true, true_and, BEq.rfl, reduceCtorEq] at hd_
                  go_simp
                  exact hK_.out _ _ _ (by first | rfl | (simp only [Act.put, List.setIfInBounds_toArray, List.set_cons_zero, List.set_cons_succ, hd_]; done) | (simp only [Act.put, List.setIfInBounds_toArray, List.set_cons_zero, List.set_cons_succ, hd_]; rfl)) (Below.refl _ _) rfl (fun h => by cases h)
                · intro w0_ hF_ hd_ Q_ K_ hK_
                  have hc0_ := (bcell hF_).1
                  have hf0_ := (bcell hF_).2
                  have hz0_ := hF_.size; (try simp at hz0_)
                  (try simp at hc0_ hf0_)
                  have : rb < w0_.heap.size := by omega
                  simp only [DepsR, Region.binds, Nat.zero_add, Nat.reduceAdd, true_implies, Bool.false_eq_true, false_implies, and_true, true_and, BEq.rfl, reduceCtorEq] at hd_
                  go_simp
                  exact hK_.out _ _ _ (by first | rfl | (simp only [Act.put, List.setIfInBounds_toArray, List.set_cons_zero, List.set_cons_succ, hd_]; done) | (simp only [Act.put, List.setIfInBounds_toArray, List.set_cons_zero, List.set_cons_succ, hd_]; rfl)) (Below.refl _ _) rfl (fun h => by cases h)
                · intro w0_ hF_ hd_ Q_ K_ hK_
                  have hc0_ := (bcell hF_).1
                  have hf0_ := (bcell hF_).2
                  have hz0_ := hF_.size; (try simp at hz0_)
                  (try simp at hc0_ hf0_)
                  have : rb < w0_.heap.size := by omega
                  simp only [DepsR, Region.binds, Nat.zero_add, Nat.reduceAdd, true_implies, Bool.false_eq_true, false_implies, and_true, true_and, BEq.rfl, reduceCtorEq] at hd_
                  go_simp
                  exact hK_.out _ _ _ (by first | rfl | (simp only [Act.put, List.setIfInBounds_toArray, List.set_cons_zero, List.set_cons_succ, hd_]; done) | (simp only [Act.put, List.setIfInBounds_toArray, List.set_cons_zero, List.set_cons_succ, hd_]; rfl)) (Below.refl _ _) rfl (fun h => by cases h)
                · intro w0_ hF_ hd_ Q_ K_ hK_
                  have hc0_ := (bcell hF_).1
                  have hf0_ := (bcell hF_).2
                  have hz0_ := hF_.size; (try simp at hz0_)
                  (try simp at hc0_ hf0_)
                  have : rb < w0_.heap.size := by omega
                  simp only [DepsR, Region.binds, Nat.zero_add, Nat.reduceAdd, true_implies, Bool.false_eq_true, false_implies, and_true, true_and, BEq.rfl, reduceCtorEq] at hd_
                  go_simp
                  exact hK_.out _ _ _ (by first | rfl | (simp only [Act.put, List.setIfInBounds_toArray, List.set_cons_zero, List.set_cons_succ, hd_]; done) | (simp only [Act.put, List.setIfInBounds_toArray, List.set_cons_zero, List.set_cons_succ, hd_]; rfl)) (Below.refl _ _) rfl (fun h => by cases h)
                · intro w0_ hF_ hd_ Q_ K_ hK_
                  have hc0_ := (bcell hF_).1
                  have hf0_ := (bcell hF_).2
                  have hz0_ := hF_.size; (try simp at hz0_)
                  (try simp at hc0_ hf0_)
                  have : rb < w0_.heap.size := by omega
                  simp only [DepsR, Region.binds, Nat.zero_add, Nat.reduceAdd, true_implies, Bool.false_eq_true, false_implies, and_true, true_and, BEq.rfl, reduceCtorEq] at hd_
                  go_simp
                  refine (HI.out _ hF_).mono ?_
                  rintro e_ w1_ ⟨v_, rfl, hr_, hb_⟩
                  exact hK_.out _ _ _ (by first | rfl | (simp only [Act.put, List.setIfInBounds_toArray, List.set_cons_zero, List.set_cons_succ, hd_]; done) | (simp only [Act.put, List.setIfInBounds_toArray, List.set_cons_zero, List.set_cons_succ, hd_]; rfl)) hb_ hr_ (fun h => by cases h)
                · intro w0_ hF_ hd_ Q_ K_ hK_
                  have hc0_ := (bcell hF_).1
                  have hf0_ := (bcell hF_).2
                  have hz0_ := hF_.size; (try simp at hz0_)
                  (try simp at hc0_ hf0_)
                  have : rb < w0_.heap.size := by omega
                  simp only [DepsR, Region.binds, Nat.zero_add, Nat.reduceAdd, true_implies, Bool.false_eq_true, false_implies, and_true, true_and, BEq.rfl, reduceCtorEq] at hd_
                  obtain ⟨b_, hv_, h1_, h2_⟩ : SgnB w2.heap.size k (vs 8) w0_ := by simp only [hd_]
                  go_simp
                  exact hK_.out _ _ _ (by first | rfl | (simp only [Act.put, List.setIfInBounds_toArray, List.set_cons_zero, List.set_cons_succ, hd_, hv_]; done) | (simp only [Act.put, List.setIfInBounds_toArray, List.set_cons_zero, List.set_cons_succ, hv_]; done) | (simp [Act.put, hv_]; done)) (Below.refl _ _) rfl (fun h => by cases h)
                · intro w0_ hF_ hd_ Q_ K_ hK_
                  have hc0_ := (bcell hF_).1
                  have hf0_ := (bcell hF_).2
                  have hz0_ := hF_.size; (try simp at hz0_)
                  (try simp at hc0_ hf0_)
                  have : rb < w0_.heap.size := by omega
                  simp only [DepsR, Region.binds, Nat.zero_add, Nat.reduceAdd, true_implies, Bool.false_eq_true, false_implies, and_true, true_and, BEq.rfl, reduceCtorEq] at hd_
                  obtain ⟨b_, hv_, h1_, h2_⟩ : SgnB w2.heap.size k (vs 8) w0_ := by simp only [hd_]
                  go_simp
                  exact hK_.out _ _ _ (by first | rfl | (simp only [Act.put, List.setIfInBounds_toArray, List.set_cons_zero, List.set_cons_succ, hd_, hv_]; done) | (simp only [Act.put, List.setIfInBounds_toArray, List.set_cons_zero, List.set_cons_succ, hv_]; done) | (simp [Act.put, hv_]; done)) (Below.refl _ _) rfl (fun h => by cases h)
                · intro w0_ hF_ hd_ Q_ K_ hK_
                  have hc0_ := (bcell hF_).1
                  have hf0_ := (bcell hF_).2
                  have hz0_ := hF_.size; (try simp at hz0_)
                  (try simp at hc0_ hf0_)
                  have : rb < w0_.heap.size := by omega
                  simp only [DepsR, Region.binds, Nat.zero_add, Nat.reduceAdd, true_implies, Bool.false_eq_true, false_implies, and_true, true_and, BEq.rfl, reduceCtorEq] at hd_
                  obtain ⟨b_, hv_, h1_, h2_⟩ : SgnB w2.heap.size k (vs 8) w0_ := by simp only [hd_]
                  go_simp
                  exact hK_.out _ _ _ (by first | rfl | (simp only [Act.put, List.setIfInBounds_toArray, List.set_cons_zero, List.set_cons_succ, hd_, hv_]; done) | (simp only [Act.put, List.setIfInBounds_toArray, List.set_cons_zero, List.set_cons_succ, hv_]; done) | (simp [Act.put, hv_]; done)) (Below.refl _ _) rfl (fun h => by cases h)
                · intro w0_ hF_ hd_ Q_ K_ hK_
                  have hc0_ := (bcell hF_).1
                  have hf0_ := (bcell hF_).2
                  have hz0_ := hF_.size; (try simp at hz0_)
                  (try simp at hc0_ hf0_)
                  have : rb < w0_.heap.size := by omega
                  simp only [DepsR, Region.binds, Nat.zero_add, Nat.reduceAdd, true_implies, Bool.false_eq_true, false_implies, and_true, true_and, BEq.rfl, reduceCtorEq] at hd_
                  obtain ⟨b_, hv_, h1_, h2_⟩ : SgnB w2.heap.size k (vs 8) w0_ := by simp only [hd_]
                  go_simp
                  exact hK_.out _ _ _ (by first | rfl | (simp only [Act.put, List.setIfInBounds_toArray, List.set_cons_zero, List.set_cons_succ, hd_, hv_]; done) | (simp only [Act.put, List.setIfInBounds_toArray, List.set_cons_zero, List.set_cons_succ, hv_]; done) | (simp [Act.put, hv_]; done)) (Below.refl _ _) ⟨b_, rfl, h1_, h2_⟩ (fun h => by cases h)
                · intro w0_ hF_ hd_ Q_ K_ hK_
                  have hc0_ := (bcell hF_).1
                  have hf0_ := (bcell hF_).2
                  have hz0_ := hF_.size; (try simp at hz0_)
                  (try simp at hc0_ hf0_)
                  have : rb < w0_.heap.size := by omega
                  simp only [DepsR, Region.binds, Nat.zero_add, Nat.reduceAdd, true_implies, Bool.false_eq_true, false_implies, and_true, true_and, BEq.rfl, reduceCtorEq] at hd_
                  go_simp
                  exact hK_.out _ _ _ (by first | rfl | (simp only [Act.put, List.setIfInBounds_toArray, List.set_cons_zero, List.set_cons_succ, hd_]; done) | (simp only [Act.put, List.setIfInBounds_toArray, List.set_cons_zero, List.set_cons_succ, hd_]; rfl)) (Below.refl _ _) rfl (fun h => by cases h)
                · intro w0_ hF_ hd_ Q_ K_ hK_
                  have hc0_ := (bcell hF_).1
                  have hf0_ := (bcell hF_).2
                  have hz0_ := hF_.size; (try simp at hz0_)
                  (try simp at hc0_ hf0_)
                  have : rb < w0_.heap.size := by omega
                  simp only [DepsR, Region.binds, Nat.zero_add, Nat.reduceAdd, true_implies, Bool.false_eq_true, false_implies, and_true, true_and, BEq.rfl, reduceCtorEq] at hd_
                  go_simp
                  exact hK_.out _ _ _ (by first | rfl | (simp only [Act.put, List.setIfInBounds_toArray, List.set_cons_zero, List.set_cons_succ, hd_]; done) | (simp only [Act.put, List.setIfInBounds_toArray, List.set_cons_zero, List.set_cons_succ, hd_]; rfl)) (Below.refl _ _) rfl (fun h => by cases h)
                · intro w0_ hF_ hd_ Q_ K_ hK_
                  have hc0_ := (bcell hF_).1
                  have hf0_ := (bcell hF_).2
                  have hz0_ := hF_.size; (try simp at hz0_)
                  (try simp at hc0_ hf0_)
                  have : rb < w0_.heap.size := by omega
                  simp only [DepsR, Region.binds, Nat.zero_add, Nat.reduceAdd, true_implies, Bool.false_eq_true, false_implies, and_true, true_and, BEq.rfl, reduceCtorEq] at hd_
                  go_simp
                  exact hK_.out _ _ _ (by first | rfl | (simp only [Act.put, List.setIfInBounds_toArray, List.set_cons_zero, List.set_cons_succ, hd_]; done) | (simp only [Act.put, List.setIfInBounds_toArray, List.set_cons_zero, List.set_cons_succ, hd_]; rfl)) (Below.refl _ _) rfl (fun h => by cases h)
                · intro w0_ hF_ hd_ Q_ K_ hK_
                  have hc0_ := (bcell hF_).1
                  have hf0_ := (bcell hF_).2
                  have hz0_ := hF_.size; (try simp at hz0_)
                  (try simp at hc0_ hf0_)
                  have : rb < w0_.heap.size := by omega
                  simp only [DepsR, Region.binds, Nat.zero_add, Nat.reduceAdd, true_implies, Bool.false_eq_true, false_implies, and_true, true_and, BEq.rfl, reduceCtorEq] at hd_
                  obtain ⟨b_, hv_, h1_, h2_⟩ : FltB w2.heap.size k (vs 12) w0_ := by simp only [hd_]
                  go_simp
                  exact hK_.out _ _ _ (by first | rfl | (simp only [Act.put, List.setIfInBounds_toArray, List.set_cons_zero, List.set_cons_succ, hd_, hv_]; done) | (simp only [Act.put, List.setIfInBounds_toArray, List.set_cons_zero, List.set_cons_succ, hv_]; done) | (simp [Act.put, hv_]; done)) (Below.refl _ _) ⟨b_, rfl, h1_, h2_⟩ (fun h => by cases h)
              · intro vs w3 hBw3 hA_ hD_
                simp only [AllR, Nat.zero_add, Nat.reduceAdd, and_true] at hA_
                obtain ⟨r0_, r1_, r2_, r3_, r4_, r5_, r6_, r7_, r8_, r9_, r10_, r11_, r12_, r13_, r14_, r15_, r16_⟩ := hA_
                clear hD_
                simp only [putAll, Act.put, List.setIfInBounds_toArray, List.set_cons_zero, List.set_cons_succ, Nat.zero_add, Nat.reduceAdd, r0_, r1_, r2_, r3_, r4_, r5_, r6_, r7_, r9_, r10_, r11_, r13_, r14_, r15_]
                clear r0_ r1_ r2_ r3_ r4_ r5_ r6_ r7_ r9_ r10_ r11_ r13_ r14_ r15_
                obtain ⟨hcw3, hfw3⟩ := bcell hBw3; (try simp only [World.size_drew, World.cell?_drew, World.frozen?_drew] at hcw3 hfw3); have hzw3 := hBw3.size; (try simp at hzw3)
                have : rb < w3.heap.size := by omega
                obtain ⟨b, hv, hb1, hb2⟩ := r16_
                obtain ⟨b8, hv8, hb81, hb82⟩ := r8_
                obtain ⟨b12, hv12, hb121, hb122⟩ := r12_
                simp only [hv, hv8, hv12]
                clear hv hv8 hv12 hb81 hb82 hb121 hb122
                have HB2 := Lib.hid hb2
                have HB1 := Lib.hid hb1
                clear hb1 hb2
                go_wp2
                refine bodyPost_ret (v := .tuple #[.int .i64 0, .int .i64 0, .int .i64 0, .iface 47 (.pointer (some ⟨b, 0, none⟩))]) (by simp [results, Try.results22, go_sem, *]) rfl ?_
                show EndT k (signL l k) w _ _
                rw [HRR.out, hi]
                exact ⟨_, rfl, Nat.le_trans h2B.size HB1.out, HB2.out, h2B.trans (hBw3.mono h2B.size)⟩
        · rw [h63] at s63
          have er : signL l k = .some 0 1 (k + 1) := by unfold signL; simp only [h43, h42, h63, if_true, if_false, Bool.false_eq_true]
          go_wp2
          refine bodyPost_ret (v := .tuple #[.int .i64 0, .int .i64 1, .int .i64 1, .nilIface]) (by simp [results, Try.results22, go_sem, *]) rfl ?_
          show EndT k (signL l k) w _ _
          rw [er]; unfold EndT; (try rw [h1k])
          first | exact ⟨rfl, below_drewN (Below.refl _ _) _⟩ | exact ⟨by rw [show ((k + 1 : Nat) : Int) - (k : Int) = 1 by omega], below_drewN (Below.refl _ _) _⟩
      · rw [h42] at s42
        have er : signL l k = .some 0 (-1) (k + 1) := by unfold signL; simp only [h43, h42, if_true, if_false, Bool.false_eq_true]
        go_wp2
        refine bodyPost_ret (v := .tuple #[.int .i64 0, .int .i64 (-1), .int .i64 1, .nilIface]) (by simp [results, Try.results22, go_sem, *]) rfl ?_
        show EndT k (signL l k) w _ _
        rw [er]; unfold EndT; (try rw [h1k])
        first | exact ⟨rfl, below_drewN (Below.refl _ _) _⟩ | exact ⟨by rw [show ((k + 1 : Nat) : Int) - (k : Int) = 1 by omega], below_drewN (Below.refl _ _) _⟩
    · rw [h43] at s43
      have er : signL l k = .some 1 (-1) (k + 1) := by unfold signL; simp only [h43, if_true, if_false, Bool.false_eq_true]
      go_wp2
      refine bodyPost_ret (v := .tuple #[.int .i64 1, .int .i64 (-1), .int .i64 1, .nilIface]) (by simp [results, Try.results22, go_sem, *]) rfl ?_
      show EndT k (signL l k) w _ _
      rw [er]; unfold EndT; (try rw [h1k])
      first | exact ⟨rfl, below_drewN (Below.refl _ _) _⟩ | exact ⟨by rw [show ((k + 1 : Nat) : Int) - (k : Int) = 1 by omega], below_drewN (Below.refl _ _) _⟩
  · obtain rfl : k = l.length := by omega
    have t0 : (((l.length : Nat) : Int) == (l.length : Int)) = true := by rw [beq_iff_eq]
    have er : signL l l.length = .none := by unfold signL; rw [isL_fin (Nat.le_refl _), isL_fin (Nat.le_refl _), isL_fin (Nat.le_refl _), isL_fin (Nat.le_refl _)]; rfl
    rw [er]
    clear er HU
    go_enter Try.func22, Try.ntmps22
    go_upto_region 1 with fail
    go_quiet (fail)
    go_wp2
    refine bodyPost_ret (v := .tuple #[.int .i64 0, .int .i64 0, .int .i64 0, .nilIface]) (by simp [results, Try.results22, go_sem, *]) rfl ⟨rfl, ?_⟩
    exact below_drewN (Below.refl _ _) _
end Go.Proofs.Ytfmekmbdienbjaa
