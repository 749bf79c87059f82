/- The walk of EreDeep. -/
import Derived.Test.YtfmekmbdienbjaaEreS
import Derived.Test.YtfmekmbdienbjaaSetP
namespace Go.Proofs.Ytfmekmbdienbjaa
set_option linter.unusedSimpArgs false
set_option linter.unusedVariables false
set_option linter.unnecessarySimpa false
open Go.RowKit

/-- The relation of a loop that appends a byte a round. -/
def LoopB (w : World) (BB : Nat) (wr : World) (v : Value) (l : List UInt8) : Prop := OwnB wr BB v l ∧ Below w.heap.size w wr ∧ BB ≤ wr.heap.size
theorem LoopB.push {w : World} {BB : Nat} {wr : World} {v : Value} {l : List UInt8} (h : LoopB w BB wr v l) (hw : w.heap.size ≤ BB) {c : UInt8} {g cap : Nat} {w' : World}
    (hown : w'.ownsRow BB 5 1 (.slice (some ⟨g, 0, none⟩) (l.length + 1) cap) (l.length + 1) (bvs l ++ [bv c])) {o : Obj} (hgr : (wr.alloc o).grownBy w' v.ownBlock) : LoopB w BB w' (.slice (some ⟨g, 0, none⟩) (l.length + 1) cap) (l ++ [c]) := by
  refine ⟨?_, ?_, ?_⟩
  · unfold OwnB
    rw [← bvs_app, List.length_append]
    exact hown
  · refine (h.2.1.alloc h.2.1.size o).grown hgr (by simp; have := h.2.1.size; omega) fun k hk => ?_
    have := World.ownsRow.lt h.1 k hk
    omega
  · have := hgr.size
    simp at this
    have := h.2.2
    omega
set_option maxRecDepth 100000 in
set_option maxHeartbeats 16000000 in
theorem deep_w (n : Nat) (hn : n < 256) (w : World) (hM : HM w) :
    Calls Try.prog 4 #[.int .u8 (n : Int)] w fun e w' => e = .returned (.bool true) ∧ Below w.heap.size w w' := by
  have HA := Lib.hid (awake4 w hM)
  obtain ⟨i0, hi0, hz0, hz1, hz2⟩ := u8_parts
  have HI0 := Lib.hid hi0
  have HZ0 := Lib.hid hz0
  have HZ1 := Lib.hid hz1
  have HZ2 := Lib.hid hz2
  clear hi0 hz0 hz1 hz2
  go_enter Try.func4, Try.ntmps4
  go_wp2_with fail
  refine (HA.out).mono ?_; rintro e w1 ⟨rfl, hb1⟩; (try dsimp only)
  have HB1 := Lib.hid hb1
  clear hb1 HA
  go_upto_region 4 with fail
  obtain ⟨k, hk⟩ : ∃ k, k = n % 80 := ⟨_, rfl⟩
  rw [show ((n : Int) % 80) = (k : Int) by omega]
  have k80 : k < 80 := by omega
  obtain ⟨BB, hBB⟩ : ∃ x, x = w1.heap.size := ⟨_, rfl⟩
  have HWB : Hid (w.heap.size ≤ BB) := by show _ ≤ _; rw [hBB]; exact HB1.out.size
  have L0 : Hid (LoopB w BB w1 (.slice none 0 0) []) := ⟨OwnB.nil _ _, HB1.out, Nat.le_of_eq hBB⟩
  have HM0 := Lib.hid hM
  clear hk hn hBB HB1 hM
  go_wp2
  go_loopw [4, 5] (fun t4 t5 wr => ∃ (i : Nat) (q : List UInt8), i ≤ k ∧ Hid (q = List.replicate i 40) ∧ t5 = .int .i64 (i : Int) ∧ Hid (LoopB w BB wr t4 q)) (fun _ t5 _ => k - (intOf t5).toNat)
  case atStart => exact ⟨0, [], Nat.zero_le _, rfl, rfl, L0⟩
  case round =>
    clear L0
    obtain ⟨i, q, hi, HQ, rfl, L⟩ := hrel
    obtain ⟨ad, cap, rfl⟩ := L.out.1.val
    have hql : q.length ≤ 80 := by rw [HQ.out]; simp; omega
    by_cases hik : i < k
    · have ti : decide ((i : Int) < (k : Int)) = true := decide_eq_true (by omega)
      have ti' : decide (i < k) = true := decide_eq_true hik
      have wi : IntKind.i64.wrap ((i : Int) + 1) = (i : Int) + 1 := by rw [IntKind.wrap_i64]; omega
      have hB9 : Below wr.heap.size wr (wr.alloc (.cells #[.int .u8 40] 5)) := (Below.refl _ _).alloc (Nat.le_refl _) _
      have HO := Lib.hid (L.out.1.blw hB9)
      have HZ : Hid (BB ≤ (wr.alloc (.cells #[.int .u8 40] 5)).heap.size) := Nat.le_trans L.out.2.2 hB9.size
      have r9 : Row (wr.alloc (.cells #[.int .u8 40] 5)) wr.heap.size 5 #[.int .u8 40] := Row.new wr _ _
      have HN : Hid (∀ j u, (bvs [40])[j]? = some u → (wr.alloc (.cells #[.int .u8 40] 5)).cell? ((⟨wr.heap.size, 0, none⟩ : Addr).add j) = some u) := by
        intro j u hu
        have e : (⟨wr.heap.size, 0, none⟩ : Addr).add j = ⟨wr.heap.size, j, none⟩ := by unfold Addr.add; split <;> simp_all
        rw [e, r9.cell, List.getElem?_toArray]; exact hu
      have HN1 : Hid (∀ u ∈ bvs [40], u.oneCell' = true) := bvs_one _
      have HM1 : Hid (q.length + 1 ≤ maxLen) := by show _ ≤ _; simp only [maxLen]; omega
      have HM2 : Hid ((q.length + 1) * 1 ≤ 140737488355328) := by show _ ≤ _; omega
      clear hB9 r9
      go_wp2_with (at_builtin; refine wpList_append_lies _ rfl (.tmp 19) (.tmp 20) _ rfl BB 5 i0 (.int .u8 0) 1 1 Try.underlying22 HI0.out HZ0.out HZ1.out HZ2.out rfl (by decide) (.slice ad q.length cap) q.length (bvs q) rfl HO.out ⟨wr.heap.size, 0, none⟩ 1 1 (bvs [40]) rfl rfl HN.out HN1.out (by decide) HM1.out HM2.out HZ.out _ rfl ?_; intro g cap2 w9 hown hgrow hat hlt)
      have L2 := Lib.hid (L.out.push HWB.out (c := 40) hown hgrow)
      clear hown hgrow hat hlt HO HZ HN HN1 HM1 HM2 L
      go_wp2
      go_roundw
      case rel => exact ⟨i + 1, q ++ [40], by omega, by show _ = _; rw [HQ.out, List.replicate_succ'], by go_num, L2⟩
      case measure => simp [intOf]; omega
    · have ti : decide ((i : Int) < (k : Int)) = false := decide_eq_false (by omega)
      have ti' : decide (i < k) = false := decide_eq_false hik
      obtain rfl : i = k := by omega
      have hB9 : Below wr.heap.size wr (wr.alloc (.cells #[.int .u8 97] 5)) := (Below.refl _ _).alloc (Nat.le_refl _) _
      have HO := Lib.hid (L.out.1.blw hB9)
      have HZ : Hid (BB ≤ (wr.alloc (.cells #[.int .u8 97] 5)).heap.size) := Nat.le_trans L.out.2.2 hB9.size
      have r9 : Row (wr.alloc (.cells #[.int .u8 97] 5)) wr.heap.size 5 #[.int .u8 97] := Row.new wr _ _
      have HN : Hid (∀ j u, (bvs [97])[j]? = some u → (wr.alloc (.cells #[.int .u8 97] 5)).cell? ((⟨wr.heap.size, 0, none⟩ : Addr).add j) = some u) := by
        intro j u hu
        have e : (⟨wr.heap.size, 0, none⟩ : Addr).add j = ⟨wr.heap.size, j, none⟩ := by unfold Addr.add; split <;> simp_all
        rw [e, r9.cell, List.getElem?_toArray]; exact hu
      have HN1 : Hid (∀ u ∈ bvs [97], u.oneCell' = true) := bvs_one _
      have HM1 : Hid (q.length + 1 ≤ maxLen) := by show _ ≤ _; simp only [maxLen]; omega
      have HM2 : Hid ((q.length + 1) * 1 ≤ 140737488355328) := by show _ ≤ _; omega
      clear hB9 r9
      go_wp2_with (at_builtin; refine wpList_append_lies _ rfl (.tmp 22) (.tmp 23) _ rfl BB 5 i0 (.int .u8 0) 1 1 Try.underlying22 HI0.out HZ0.out HZ1.out HZ2.out rfl (by decide) (.slice ad q.length cap) q.length (bvs q) rfl HO.out ⟨wr.heap.size, 0, none⟩ 1 1 (bvs [97]) rfl rfl HN.out HN1.out (by decide) HM1.out HM2.out HZ.out _ rfl ?_; intro g cap2 w9 hown hgrow hat hlt)
      have L2 := Lib.hid (L.out.push HWB.out (c := 97) hown hgrow)
      clear hown hgrow hat hlt HO HZ HN HN1 HM1 HM2 L
      go_wp2
      have HQ2 : Hid (q ++ [97] = List.replicate i 40 ++ [97]) := by rw [HQ.out]; rfl
      obtain ⟨q2, hq2⟩ : ∃ x, x = q ++ [97] := ⟨_, rfl⟩
      rw [← hq2] at L2 HQ2
      have hlq : (Value.slice (some ⟨g, 0, none⟩) (q.length + 1) cap2) = .slice (some ⟨g, 0, none⟩) q2.length cap2 := by rw [hq2, List.length_append]; rfl
      have L3 : Hid (LoopB w BB w9 (Value.slice (some ⟨g, 0, none⟩) (q.length + 1) cap2) q2) := L2.out
      clear hq2 hlq L2 hql
      go_loopw [4, 6] (fun t4 t6 wr => ∃ (j : Nat) (x : List UInt8), j ≤ i ∧ Hid (x = q2 ++ List.replicate j 41) ∧ t6 = .int .i64 (j : Int) ∧ Hid (LoopB w BB wr t4 x)) (fun _ t6 _ => i - (intOf t6).toNat)
      case atStart => exact ⟨0, q2, Nat.zero_le _, (by show _ = _; simp), rfl, L3⟩
      case round =>
        clear L3
        obtain ⟨j, x, hj, HX, rfl, L⟩ := hrel
        obtain ⟨ad, cap, rfl⟩ := L.out.1.val
        have hxl : x.length ≤ 200 := by rw [HX.out, HQ2.out]; simp; omega
        by_cases hjk : j < i
        · have tj : decide ((j : Int) < (i : Int)) = true := decide_eq_true (by omega)
          have tj' : decide (j < i) = true := decide_eq_true hjk
          have wj : IntKind.i64.wrap ((j : Int) + 1) = (j : Int) + 1 := by rw [IntKind.wrap_i64]; omega
          have hB9 : Below wr.heap.size wr (wr.alloc (.cells #[.int .u8 41] 5)) := (Below.refl _ _).alloc (Nat.le_refl _) _
          have HO := Lib.hid (L.out.1.blw hB9)
          have HZ : Hid (BB ≤ (wr.alloc (.cells #[.int .u8 41] 5)).heap.size) := Nat.le_trans L.out.2.2 hB9.size
          have r9 : Row (wr.alloc (.cells #[.int .u8 41] 5)) wr.heap.size 5 #[.int .u8 41] := Row.new wr _ _
          have HN : Hid (∀ j u, (bvs [41])[j]? = some u → (wr.alloc (.cells #[.int .u8 41] 5)).cell? ((⟨wr.heap.size, 0, none⟩ : Addr).add j) = some u) := by
            intro j u hu
            have e : (⟨wr.heap.size, 0, none⟩ : Addr).add j = ⟨wr.heap.size, j, none⟩ := by unfold Addr.add; split <;> simp_all
            rw [e, r9.cell, List.getElem?_toArray]; exact hu
          have HN1 : Hid (∀ u ∈ bvs [41], u.oneCell' = true) := bvs_one _
          have HM1 : Hid (x.length + 1 ≤ maxLen) := by show _ ≤ _; simp only [maxLen]; omega
          have HM2 : Hid ((x.length + 1) * 1 ≤ 140737488355328) := by show _ ≤ _; omega
          clear hB9 r9
          go_wp2_with (at_builtin; refine wpList_append_lies _ rfl (.tmp 30) (.tmp 31) _ rfl BB 5 i0 (.int .u8 0) 1 1 Try.underlying22 HI0.out HZ0.out HZ1.out HZ2.out rfl (by decide) (.slice ad x.length cap) x.length (bvs x) rfl HO.out ⟨wr.heap.size, 0, none⟩ 1 1 (bvs [41]) rfl rfl HN.out HN1.out (by decide) HM1.out HM2.out HZ.out _ rfl ?_; intro g cap2 w8 hown hgrow hat hlt)
          have L2 := Lib.hid (L.out.push HWB.out (c := 41) hown hgrow)
          clear hown hgrow hat hlt HO HZ HN HN1 HM1 HM2 L
          go_wp2
          go_roundw
          case rel => exact ⟨j + 1, x ++ [41], by omega, by show _ = _; rw [HX.out, List.replicate_succ', List.append_assoc], by go_num, L2⟩
          case measure => simp [intOf]; omega
        · have tj : decide ((j : Int) < (i : Int)) = false := decide_eq_false (by omega)
          have tj' : decide (j < i) = false := decide_eq_false hjk
          obtain rfl : j = i := by omega
          have hxd : x = deepL j := by rw [HX.out, HQ2.out]; unfold deepL; simp
          have hbs := L.out.1.bs
          have BL := Lib.hid L.out.2.1
          have hMr := HM0.out.on BL.out
          by_cases h64 : j ≤ 64
          · have t64 : decide ((64 : Int) < (j : Int)) = false := decide_eq_false (by omega)
            have t64' : decide (64 < j) = false := decide_eq_false (by omega)
            have hR := deep_ok h64 j 0 (by omega)
            have hT : topR x (.ok tA (2 * j + 1 - 0)) = .ok tA (2 * j + 1 - 0) := by
              have hl9 := deepL_len j
              unfold topR; rw [hxd, if_neg (by omega)]
              show (if _ then _ else _) = _
              rw [if_neg (by omega)]
            rw [← hxd] at hR
            have HP := par_u hbs hMr (by omega) _ hR
            rw [hT] at HP
            have HPP : Hid (Calls Try.prog 6 #[.slice ad x.length cap] wr fun e w' => ∃ ad2 cap2, e = .returned (.tuple #[.agg (partA 1 (rngP 97 97) 0 0 (.slice ad2 0 cap2)), .nilIface]) ∧ Below wr.heap.size wr w') := by
              refine HP.mono ?_
              rintro e w' ⟨cs, ev, rfl, ⟨rfl, hp⟩, hb⟩
              cases hp with
              | mk _ _ _ _ _ ad2 cap2 blk css h0 h1 hc hs => exact ⟨ad2, cap2, rfl, hb⟩
            have HCT : Hid (∀ W, Calls Try.prog 10 #[setV (rngP 97 97)] W fun e w' => e = .returned (.int .i64 1) ∧ Below W.heap.size W w') := fun W => by
              have h9 := count_u (rngP 97 97) W
              rwa [tA_one] at h9
            clear HP hR hT hbs hMr hxd HX HQ2 L HM0 hik hjk h64
            go_wp2_with fail
            refine (HPP.out).mono ?_
            rintro e w7 ⟨ad2, cap3, rfl, hb⟩; (try dsimp only)
            have B7 : Hid (Below w.heap.size w w7) := below_on BL.out hb
            clear hb HPP BL
            go_upto_region 15 with fail
            have r5 : Row (w7.alloc (.cells (partA 1 (rngP 97 97) 0 0 (.slice ad2 0 cap3)) 29)) w7.heap.size 29 (partA 1 (rngP 97 97) 0 0 (.slice ad2 0 cap3)) := Row.new w7 _ _
            have B8 : Hid (Below w.heap.size w (w7.alloc (.cells (partA 1 (rngP 97 97) 0 0 (.slice ad2 0 cap3)) 29))) := B7.out.alloc B7.out.size _
            generalize (w7.alloc (.cells (partA 1 (rngP 97 97) 0 0 (.slice ad2 0 cap3)) 29)) = w8 at *
            obtain ⟨g5, hg5⟩ : ∃ x, x = w7.heap.size := ⟨_, rfl⟩
            rw [← hg5]
            rw [← hg5] at r5
            clear hg5 B7
            have p0 : w8.cell? ⟨g5, 0, none⟩ = some (.int .i64 1) := r5.cell 0
            have p1 : w8.cell? ⟨g5, 1, none⟩ = some (.int .u64 (wd (rngP 97 97) 0 : Int)) := r5.cell 1
            have p2 : w8.cell? ⟨g5, 2, none⟩ = some (.int .u64 (wd (rngP 97 97) 1 : Int)) := r5.cell 2
            have p3 : w8.cell? ⟨g5, 3, none⟩ = some (.int .u64 (wd (rngP 97 97) 2 : Int)) := r5.cell 3
            have p4 : w8.cell? ⟨g5, 4, none⟩ = some (.int .u64 (wd (rngP 97 97) 3 : Int)) := r5.cell 4
            have hl5 := r5.lt
            clear r5
            go_wp2_with fail
            refine (HCT.out _).mono ?_
            rintro e w9 ⟨rfl, hb9⟩; (try dsimp only)
            have B9 : Hid (Below w.heap.size w w9) := below_on B8.out hb9
            clear hb9 B8 HCT p0 p1 p2 p3 p4
            go_wp2
            go_ret
            exact ⟨rfl, B9.out⟩
          · have t64 : decide ((64 : Int) < (j : Int)) = true := decide_eq_true (by omega)
            have t64' : decide (64 < j) = true := decide_eq_true (by omega)
            have hR := deep_bad (k := j) (by omega) 64 0 rfl
            have hT : topR x (.bad 64 6) = .bad 64 6 := by
              have hl9 := deepL_len j
              unfold topR; rw [hxd, if_neg (by omega)]
            rw [← hxd] at hR
            have HP := par_u hbs hMr (by omega) _ hR
            rw [hT] at HP
            have HPP : Hid (Calls Try.prog 6 #[.slice ad x.length cap] wr fun e w' => ∃ b, e = .returned (.tuple #[.agg zeroPA, .iface 47 (.pointer (some ⟨b, 0, none⟩))]) ∧ FRow w' b 64 6 ∧ Below wr.heap.size wr w') := by
              refine HP.mono ?_
              rintro e w' ⟨cs, ev, rfl, ⟨rfl, b, rfl, h1, h2⟩, hb⟩
              exact ⟨b, rfl, h2, hb⟩
            clear HP hR hT hbs hMr hxd HX HQ2 L HM0 hik hjk h64
            go_wp2_with fail
            refine (HPP.out).mono ?_
            rintro e w7 ⟨b, rfl, hfr, hb⟩; (try dsimp only)
            have B7 : Hid (Below w.heap.size w w7) := below_on BL.out hb
            clear hb HPP BL
            go_upto_region 15 with fail
            have F8 : FRow (w7.alloc (.cells zeroPA 29)) b 64 6 := hfr.alloc _
            have B8 : Hid (Below w.heap.size w (w7.alloc (.cells zeroPA 29))) := B7.out.alloc B7.out.size _
            clear hfr
            generalize (w7.alloc (.cells zeroPA 29)) = w8 at *
            have CC := Lib.hid (code_fault b 6 (by omega) (by omega) w8 (by rw [F8.cell]; rfl))
            clear B7 F8
            go_wp2_with fail
            refine (CC.out).mono ?_
            rintro e w9 ⟨rfl, rfl⟩; (try dsimp only)
            go_wp2
            go_ret
            exact ⟨rfl, B8.out⟩
theorem deep_c (c : UInt8) (w : World) (hM : HM w) :
    Calls Try.prog 4 #[bv c] w fun e w' => e = .returned (.bool true) ∧ Below w.heap.size w w' := deep_w c.toNat c.toNat_lt w hM
end Go.Proofs.Ytfmekmbdienbjaa
