/- The walk of EreJoins: two expressions, and one in brackets; the walk whole. -/
import Derived.Test.YtfmekmbdienbjaaEreJoX
import Derived.Test.YtfmekmbdienbjaaEreJoP
import Derived.Test.YtfmekmbdienbjaaEreOne
import Derived.Test.YtfmekmbdienbjaaEreJoY
namespace Go.Proofs.Ytfmekmbdienbjaa
set_option linter.unusedSimpArgs false
set_option linter.unusedVariables false
set_option linter.unnecessarySimpa false
open Go.RowKit

set_option maxRecDepth 100000 in
set_option maxHeartbeats 16000000 in
theorem jo_good (a b : List UInt8) (va vb : Value) (w : World) (ha : BS w va a) (hb : BS w vb b) (hM : HM w) (h1 : a.length ≤ 60) (h2 : b.length ≤ 60) {ka kb : Nat} {pa pb : Nat → Bool} {xa ya xb yb : Int} {La Lb : List PT}
    (hta : RunE a (.exp 0 0 []) (.ok (.node ka pa xa ya La) a.length)) (htb : RunE b (.exp 0 0 []) (.ok (.node kb pb xb yb Lb) b.length)) (hin : RunE (inL a) (.exp 0 0 []) (.ok (.node ka pa xa ya La) (inL a).length)) :
    Calls Try.prog 3 #[va, vb] w fun e w' => e = .returned (.bool true) ∧ Below w.heap.size w w' := by
  have HA := Lib.hid (awake4 w hM)
  obtain ⟨l, hor, hcnt⟩ := or_run hta htb
  have PA : Hid (∀ W, Below w.heap.size w W → Calls Try.prog 6 #[va] W fun e w' => ∃ ad cap, e = .returned (.tuple #[.agg (partA ka pa xa ya (.slice ad La.length cap)), .nilIface]) ∧ PVal w' W.heap.size (partA ka pa xa ya (.slice ad La.length cap)) (.node ka pa xa ya La) ∧ Below W.heap.size W w') :=
    fun W k => par_okd (ha.on k) (hM.on k) (by omega) hta
  have PB : Hid (∀ W, Below w.heap.size w W → Calls Try.prog 6 #[vb] W fun e w' => ∃ ad cap, e = .returned (.tuple #[.agg (partA kb pb xb yb (.slice ad Lb.length cap)), .nilIface]) ∧ PVal w' W.heap.size (partA kb pb xb yb (.slice ad Lb.length cap)) (.node kb pb xb yb Lb) ∧ Below W.heap.size W w') :=
    fun W k => par_okd (hb.on k) (hM.on k) (by omega) htb
  have PO : Hid (∀ W v, Below w.heap.size w W → BS W v (orL a b) → Calls Try.prog 6 #[v] W fun e w' => ∃ ad cap, e = .returned (.tuple #[.agg (partA 3 nonP 0 0 (.slice ad l.length cap)), .nilIface]) ∧ PVal w' W.heap.size (partA 3 nonP 0 0 (.slice ad l.length cap)) (.node 3 nonP 0 0 l) ∧ Below W.heap.size W w') :=
    fun W v k kv => par_okd kv (hM.on k) (by rw [orL_len]; omega) hor
  have PI : Hid (∀ W v, Below w.heap.size w W → BS W v (inL a) → Calls Try.prog 6 #[v] W fun e w' => ∃ ad cap, e = .returned (.tuple #[.agg (partA ka pa xa ya (.slice ad La.length cap)), .nilIface]) ∧ PVal w' W.heap.size (partA ka pa xa ya (.slice ad La.length cap)) (.node ka pa xa ya La) ∧ Below W.heap.size W w') :=
    fun W v k kv => par_okd kv (hM.on k) (by rw [inL_len]; omega) hin
  have hla := runE_top_len hta
  have hlb := runE_top_len htb
  have HBA := Lib.hid ha
  have HBB := Lib.hid hb
  clear hor hin hta htb
  obtain ⟨qa, ca', rfl, a4, a5, a6⟩ := ha
  obtain ⟨qb, cb', rfl, b4, b5, b6⟩ := hb
  clear a6 b6
  have t1 : decide ((60 : Int) < (a.length : Int)) = false := decide_eq_false (by omega)
  have t1' : decide (60 < a.length) = false := decide_eq_false (by omega)
  have t2 : decide ((60 : Int) < (b.length : Int)) = false := decide_eq_false (by omega)
  have t2' : decide (60 < b.length) = false := decide_eq_false (by omega)
  go_enter Try.func3, Try.ntmps3
  go_wp2_with fail
  refine (HA.out).mono ?_; rintro e w1 ⟨rfl, hb1⟩; (try dsimp only)
  have B1 := Lib.hid hb1
  clear hb1 HA
  go_wp2_with fail
  refine (PA.out _ B1.out).mono ?_; rintro e w2 ⟨ada, capa, rfl, hpa, hb2⟩; (try dsimp only)
  have B2 : Hid (Below w.heap.size w w2) := below_on B1.out hb2
  have V2 := Lib.hid hpa
  clear hb2 PA
  go_upto_region 6 with fail
  have r3 : Row (w2.alloc (.cells (partA ka pa xa ya (.slice ada La.length capa)) 29)) w2.heap.size 29 (partA ka pa xa ya (.slice ada La.length capa)) := Row.new w2 _ _
  have B3 : Hid (Below w.heap.size w (w2.alloc (.cells (partA ka pa xa ya (.slice ada La.length capa)) 29))) := B2.out.alloc B2.out.size _
  have V3 := Lib.hid (V2.out.blw (show Below w2.heap.size w2 (w2.alloc (.cells (partA ka pa xa ya (.slice ada La.length capa)) 29)) from ((Below.refl _ _).alloc (Nat.le_refl _) _)))
  generalize (w2.alloc (.cells (partA ka pa xa ya (.slice ada La.length capa)) 29)) = w3 at *
  clear B2 hpa V2
  obtain ⟨ga, hga⟩ : ∃ x, x = w2.heap.size := ⟨_, rfl⟩
  rw [← hga]
  rw [← hga] at r3
  clear hga
  have R3 := Lib.hid r3
  clear r3
  go_wp2_with fail
  refine (PB.out _ B3.out).mono ?_; rintro e w4 ⟨adb, capb, rfl, hpb, hb4⟩; (try dsimp only)
  have B4 : Hid (Below w.heap.size w w4) := below_on B3.out hb4
  have R4 := Lib.hid (R3.out.on hb4)
  have V4 := Lib.hid (V3.out.blw hb4)
  clear hb4 PB B3 R3 V3 hpb
  go_upto_region 7 with fail
  have r5 : Row (w4.alloc (.cells (partA kb pb xb yb (.slice adb Lb.length capb)) 29)) w4.heap.size 29 (partA kb pb xb yb (.slice adb Lb.length capb)) := Row.new w4 _ _
  have R5 := Lib.hid r5
  have S5 : Hid (Row (w4.alloc (.cells (partA kb pb xb yb (.slice adb Lb.length capb)) 29)) ga 29 (partA ka pa xa ya (.slice ada La.length capa))) := R4.out.alloc _
  have B5 : Hid (Below w.heap.size w (w4.alloc (.cells (partA kb pb xb yb (.slice adb Lb.length capb)) 29))) := B4.out.alloc B4.out.size _
  have V5 := Lib.hid (V4.out.blw (show Below w4.heap.size w4 (w4.alloc (.cells (partA kb pb xb yb (.slice adb Lb.length capb)) 29)) from ((Below.refl _ _).alloc (Nat.le_refl _) _)))
  generalize (w4.alloc (.cells (partA kb pb xb yb (.slice adb Lb.length capb)) 29)) = w5 at *
  obtain ⟨gb, hgb⟩ : ∃ x, x = w4.heap.size := ⟨_, rfl⟩
  rw [← hgb]
  rw [← hgb] at R5
  clear hgb B4 r5 R4 V4
  have O2 : Hid (Own8 (w5.alloc (.cells #[] 5)) w5.heap.size (.slice (some ⟨w5.heap.size, 0, none⟩) 0 0) []) := Own8.new w5 [] 5 (by decide)
  have U2 : Hid (BS (w5.alloc (.cells #[] 5)) (.slice qa a.length ca') a) := HBA.out.on (B5.out.alloc B5.out.size _)
  have M2 : Hid (([] : List UInt8).length + a.length ≤ 1000000) := by show _ ≤ _; simp only [List.length_nil]; omega
  have L2 : Hid (w5.heap.size ≤ (w5.alloc (.cells #[] 5)).heap.size) := by show _ ≤ _; simp
  have M3 : Hid (([] ++ a : List UInt8).length + ([124] : List UInt8).length ≤ 1000000) := by show _ ≤ _; simp only [List.nil_append, List.length_cons, List.length_nil]; omega
  have M4 : Hid ((([] ++ a : List UInt8) ++ [124]).length + b.length ≤ 1000000) := by show _ ≤ _; simp only [List.nil_append, List.length_append, List.length_cons, List.length_nil]; omega
  go_wp2_with (first
    | (refine wpList_app8g _ rfl (.tmp 41) (.tmp 42) rfl w5.heap.size _ _ [] a rfl rfl O2.out U2.out M2.out L2.out ?_; intro v5 w9 o9 hb9)
    | (refine wpList_app8g _ rfl (.tmp 43) (.tmp 44) rfl w5.heap.size _ _ ([] ++ a) [124] rfl rfl (o9.on ((Below.refl _ w9).alloc (Nat.le_refl _) (.cells #[.int .u8 124] 5))) (Own8.new w9 [124] 5 (by decide)).bs M3.out (Nat.le_trans L2.out (Nat.le_trans hb9.size (by simp))) ?_; intro v6 w10 o10 hb10; have K10 : Below w5.heap.size w5 w10 := (((Below.refl _ w5).alloc (Nat.le_refl _) _).trans hb9).trans ((((Below.refl _ w9).alloc (Nat.le_refl _) _).mono (Nat.le_trans L2.out hb9.size)).trans hb10))
    | (refine wpList_app8g _ rfl (.tmp 45) (.tmp 46) rfl w5.heap.size _ _ (([] ++ a) ++ [124]) b rfl rfl o10 (HBB.out.on (below_on B5.out K10)) M4.out K10.size ?_; intro v7 w11 o11 hb11; have K11 : Below w5.heap.size w5 w11 := K10.trans hb11))
  have e11 : (([] ++ a : List UInt8) ++ [124]) ++ b = orL a b := by simp [orL]
  refine (PO.out _ _ (below_on B5.out K11) (e11 ▸ o11.bs)).mono ?_; rintro e w12 ⟨ado, capo, rfl, _, hb12⟩; (try dsimp only)
  have K12 : Below w5.heap.size w5 w12 := below_on K11 hb12
  have B12 : Hid (Below w.heap.size w w12) := below_on B5.out K12
  have R12 := Lib.hid (R5.out.on K12)
  have S12 := Lib.hid (S5.out.on K12)
  have V12 := Lib.hid (V5.out.blw K12)
  clear e11 o11 o10 o9 hb9 hb10 hb11 hb12 K10 K11 K12 PO O2 U2 M2 L2 M3 M4 B5 R5 S5 V5
  go_upto_region 10 with fail
  have R13 : Hid (Row (w12.alloc (.cells (partA 3 nonP 0 0 (.slice ado l.length capo)) 29)) gb 29 (partA kb pb xb yb (.slice adb Lb.length capb))) := R12.out.alloc _
  have S13 : Hid (Row (w12.alloc (.cells (partA 3 nonP 0 0 (.slice ado l.length capo)) 29)) ga 29 (partA ka pa xa ya (.slice ada La.length capa))) := S12.out.alloc _
  have B13 : Hid (Below w.heap.size w (w12.alloc (.cells (partA 3 nonP 0 0 (.slice ado l.length capo)) 29))) := B12.out.alloc B12.out.size _
  have V13 := Lib.hid (V12.out.blw (show Below w12.heap.size w12 (w12.alloc (.cells (partA 3 nonP 0 0 (.slice ado l.length capo)) 29)) from ((Below.refl _ _).alloc (Nat.le_refl _) _)))
  have T13 := Lib.hid (show Row (w12.alloc (.cells (partA 3 nonP 0 0 (.slice ado l.length capo)) 29)) w12.heap.size 29 (partA 3 nonP 0 0 (.slice ado l.length capo)) from Row.new w12 _ _)
  generalize (w12.alloc (.cells (partA 3 nonP 0 0 (.slice ado l.length capo)) 29)) = w13 at *
  obtain ⟨go', hgo⟩ : ∃ x, x = w12.heap.size := ⟨_, rfl⟩
  rw [← hgo]
  rw [← hgo] at T13
  clear hgo R12 S12 B12 V12
  have O2 : Hid (Own8 (w13.alloc (.cells #[.int .u8 40] 5)) w13.heap.size (.slice (some ⟨w13.heap.size, 0, none⟩) 1 1) [40]) := Own8.new w13 [40] 5 (by decide)
  have U2 : Hid (BS (w13.alloc (.cells #[.int .u8 40] 5)) (.slice qa a.length ca') a) := HBA.out.on (B13.out.alloc B13.out.size _)
  have M2 : Hid (([40] : List UInt8).length + a.length ≤ 1000000) := by show _ ≤ _; simp only [List.length_nil, List.length_cons]; omega
  have L2 : Hid (w13.heap.size ≤ (w13.alloc (.cells #[.int .u8 40] 5)).heap.size) := by show _ ≤ _; simp
  have M3 : Hid (([40] ++ a : List UInt8).length + ([41] : List UInt8).length ≤ 1000000) := by show _ ≤ _; simp only [List.length_append, List.length_cons, List.length_nil]; omega
  go_wp2_with (first
    | (refine wpList_app8g _ rfl (.tmp 52) (.tmp 53) rfl w13.heap.size _ _ [40] a rfl rfl O2.out U2.out M2.out L2.out ?_; intro v15 w14 o14 hb14)
    | (refine wpList_app8g _ rfl (.tmp 54) (.tmp 55) rfl w13.heap.size _ _ ([40] ++ a) [41] rfl rfl (o14.on ((Below.refl _ w14).alloc (Nat.le_refl _) (.cells #[.int .u8 41] 5))) (Own8.new w14 [41] 5 (by decide)).bs M3.out (Nat.le_trans L2.out (Nat.le_trans hb14.size (by simp))) ?_; intro v16 w15 o15 hb15; have K15 : Below w13.heap.size w13 w15 := (((Below.refl _ w13).alloc (Nat.le_refl _) _).trans hb14).trans ((((Below.refl _ w14).alloc (Nat.le_refl _) _).mono (Nat.le_trans L2.out hb14.size)).trans hb15)))
  have e15 : ([40] ++ a : List UInt8) ++ [41] = inL a := by simp [inL]
  refine (PI.out _ _ (below_on B13.out K15) (e15 ▸ o15.bs)).mono ?_; rintro e w16 ⟨adi, capi, rfl, hpi, hb16⟩; (try dsimp only)
  have K16 : Below w13.heap.size w13 w16 := below_on K15 hb16
  have B16 : Hid (Below w.heap.size w w16) := below_on B13.out K16
  have R16 := Lib.hid (R13.out.on K16)
  have S16 := Lib.hid (S13.out.on K16)
  have T16 := Lib.hid (T13.out.on K16)
  have V16 := Lib.hid (V13.out.blw K16)
  have I16 := Lib.hid hpi
  clear e15 o15 o14 hb14 hb15 hb16 hpi K15 K16 PI O2 U2 M2 L2 M3 B13 R13 S13 T13 V13
  go_upto_region 11 with fail
  have R17 : Row (w16.alloc (.cells (partA ka pa xa ya (.slice adi La.length capi)) 29)) gb 29 (partA kb pb xb yb (.slice adb Lb.length capb)) := R16.out.alloc _
  have S17 : Row (w16.alloc (.cells (partA ka pa xa ya (.slice adi La.length capi)) 29)) ga 29 (partA ka pa xa ya (.slice ada La.length capa)) := S16.out.alloc _
  have T17 : Row (w16.alloc (.cells (partA ka pa xa ya (.slice adi La.length capi)) 29)) go' 29 (partA 3 nonP 0 0 (.slice ado l.length capo)) := T16.out.alloc _
  have I17 : Row (w16.alloc (.cells (partA ka pa xa ya (.slice adi La.length capi)) 29)) w16.heap.size 29 (partA ka pa xa ya (.slice adi La.length capi)) := Row.new w16 _ _
  have B17 : Hid (Below w.heap.size w (w16.alloc (.cells (partA ka pa xa ya (.slice adi La.length capi)) 29))) := B16.out.alloc B16.out.size _
  have V17 := V16.out.blw (show Below w16.heap.size w16 (w16.alloc (.cells (partA ka pa xa ya (.slice adi La.length capi)) 29)) from ((Below.refl _ _).alloc (Nat.le_refl _) _))
  have J17 := I16.out.blw (show Below w16.heap.size w16 (w16.alloc (.cells (partA ka pa xa ya (.slice adi La.length capi)) 29)) from ((Below.refl _ _).alloc (Nat.le_refl _) _))
  generalize (w16.alloc (.cells (partA ka pa xa ya (.slice adi La.length capi)) 29)) = w17 at *
  obtain ⟨gi, hgi⟩ : ∃ x, x = w16.heap.size := ⟨_, rfl⟩
  rw [← hgi]
  rw [← hgi] at I17
  have ON := Lib.hid (one_u J17 (Below.refl _ _) V17)
  have WA := wrapped_u (HBA.out.on B17.out)
  have WB := wrapped_u (HBB.out.on B17.out)
  have p0 : w17.cell? ⟨ga, 0, none⟩ = some (.int .i64 (ka : Int)) := S17.cell 0
  have p1 : w17.cell? ⟨ga, 1, none⟩ = some (.int .u64 (wd pa 0 : Int)) := S17.cell 1
  have p2 : w17.cell? ⟨ga, 2, none⟩ = some (.int .u64 (wd pa 1 : Int)) := S17.cell 2
  have p3 : w17.cell? ⟨ga, 3, none⟩ = some (.int .u64 (wd pa 2 : Int)) := S17.cell 3
  have p4 : w17.cell? ⟨ga, 4, none⟩ = some (.int .u64 (wd pa 3 : Int)) := S17.cell 4
  have p5 : w17.cell? ⟨ga, 5, none⟩ = some (.int .i64 xa) := S17.cell 5
  have p6 : w17.cell? ⟨ga, 6, none⟩ = some (.int .i64 ya) := S17.cell 6
  have p7 : w17.cell? ⟨ga, 7, none⟩ = some (.slice ada La.length capa) := S17.cell 7
  have u0 : w17.cell? ⟨gi, 0, none⟩ = some (.int .i64 (ka : Int)) := I17.cell 0
  have u1 : w17.cell? ⟨gi, 1, none⟩ = some (.int .u64 (wd pa 0 : Int)) := I17.cell 1
  have u2 : w17.cell? ⟨gi, 2, none⟩ = some (.int .u64 (wd pa 1 : Int)) := I17.cell 2
  have u3 : w17.cell? ⟨gi, 3, none⟩ = some (.int .u64 (wd pa 2 : Int)) := I17.cell 3
  have u4 : w17.cell? ⟨gi, 4, none⟩ = some (.int .u64 (wd pa 3 : Int)) := I17.cell 4
  have u5 : w17.cell? ⟨gi, 5, none⟩ = some (.int .i64 xa) := I17.cell 5
  have u6 : w17.cell? ⟨gi, 6, none⟩ = some (.int .i64 ya) := I17.cell 6
  have u7 : w17.cell? ⟨gi, 7, none⟩ = some (.slice adi La.length capi) := I17.cell 7
  have q0 : w17.cell? ⟨gb, 0, none⟩ = some (.int .i64 (kb : Int)) := R17.cell 0
  have q7 : w17.cell? ⟨gb, 7, none⟩ = some (.slice adb Lb.length capb) := R17.cell 7
  have z0 : w17.cell? ⟨go', 0, none⟩ = some (.int .i64 3) := T17.cell 0
  have z7 : w17.cell? ⟨go', 7, none⟩ = some (.slice ado l.length capo) := T17.cell 7
  have hp := S17.lt
  have hq := R17.lt
  have hz := T17.lt
  have hu := I17.lt
  clear R17 S17 T17 I17 R16 S16 T16 I16 V16 B16 V17 J17 hgi
  have n1 : IntKind.i64.wrap (2 + (La.length : Int)) = 2 + (La.length : Int) := by rw [IntKind.wrap_i64]; omega
  have n2 : IntKind.i64.wrap (2 + (La.length : Int) - 1) = 2 + (La.length : Int) - 1 := by rw [IntKind.wrap_i64]; omega
  have n3 : IntKind.i64.wrap (2 + (Lb.length : Int)) = 2 + (Lb.length : Int) := by rw [IntKind.wrap_i64]; omega
  have n4 : IntKind.i64.wrap (2 + (Lb.length : Int) - 1) = 2 + (Lb.length : Int) - 1 := by rw [IntKind.wrap_i64]; omega
  have n5 : IntKind.i64.wrap (2 + (La.length : Int) - 1 + (Lb.length : Int)) = 2 + (La.length : Int) - 1 + (Lb.length : Int) := by rw [IntKind.wrap_i64]; omega
  have n6 : IntKind.i64.wrap (2 + (La.length : Int) - 1 + (Lb.length : Int) - 1) = 2 + (La.length : Int) - 1 + (Lb.length : Int) - 1 := by rw [IntKind.wrap_i64]; omega
  by_cases k3a : ka = 3
  · have sa : ((ka : Int) == 3) = true := by rw [beq_iff_eq]; omega
    by_cases k3b : kb = 3
    · have sb : ((kb : Int) == 3) = true := by rw [beq_iff_eq]; omega
      have hc : (l.length : Int) = 2 + (La.length : Int) - 1 + (Lb.length : Int) - 1 ∨ isL a 0 40 = true ∨ isL b 0 40 = true := by
        rcases hcnt with h | h
        · left; simp only [cntT, if_pos k3a, if_pos k3b] at h; omega
        · exact Or.inr h
      clear hcnt k3a k3b
      by_cases he : (l.length : Int) = 2 + (La.length : Int) - 1 + (Lb.length : Int) - 1
      · have te : ((l.length : Int) == 2 + (La.length : Int) - 1 + (Lb.length : Int) - 1) = true := beq_iff_eq.2 he
        clear WA WB hc he
        go_wp2_with fail
        refine (ON.out).mono ?_; rintro e w18 ⟨rfl, hb18⟩; (try dsimp only)
        have B18 : Hid (Below w.heap.size w w18) := below_on B17.out hb18
        clear hb18 B17 ON p0 p1 p2 p3 p4 p5 p6 p7 u0 u1 u2 u3 u4 u5 u6 u7 q0 q7 z0 z7 hp hq hz hu
        go_wp2
        go_ret
        exact ⟨rfl, B18.out⟩
      · have te : ((l.length : Int) == 2 + (La.length : Int) - 1 + (Lb.length : Int) - 1) = false := beq_eq_false_iff_ne.2 he
        by_cases wa : isL a 0 40 = true
        · rw [wa] at WA
          have WA' := Lib.hid WA
          clear WA WB hc he
          go_wp2_with fail
          refine (WA'.out).mono ?_; rintro e w19 ⟨rfl, rfl⟩; (try dsimp only)
          go_wp2_with fail
          refine (ON.out).mono ?_; rintro e w18 ⟨rfl, hb18⟩; (try dsimp only)
          have B18 : Hid (Below w.heap.size w w18) := below_on B17.out hb18
          clear hb18 B17 ON p0 p1 p2 p3 p4 p5 p6 p7 u0 u1 u2 u3 u4 u5 u6 u7 q0 q7 z0 z7 hp hq hz hu
          go_wp2
          go_ret
          exact ⟨rfl, B18.out⟩
        · rw [Bool.not_eq_true] at wa
          rw [wa] at WA hc
          have wb : isL b 0 40 = true := by rcases hc with h | h | h; exact absurd h he; cases h; exact h
          rw [wb] at WB
          have WA' := Lib.hid WA
          have WB' := Lib.hid WB
          clear WA WB hc he
          go_wp2_with fail
          refine (WA'.out).mono ?_; rintro e w19 ⟨rfl, rfl⟩; (try dsimp only)
          go_wp2_with fail
          refine (WB'.out).mono ?_; rintro e w20 ⟨rfl, rfl⟩; (try dsimp only)
          go_wp2_with fail
          refine (ON.out).mono ?_; rintro e w18 ⟨rfl, hb18⟩; (try dsimp only)
          have B18 : Hid (Below w.heap.size w w18) := below_on B17.out hb18
          clear hb18 B17 ON p0 p1 p2 p3 p4 p5 p6 p7 u0 u1 u2 u3 u4 u5 u6 u7 q0 q7 z0 z7 hp hq hz hu
          go_wp2
          go_ret
          exact ⟨rfl, B18.out⟩
    · have sb : ((kb : Int) == 3) = false := by rw [beq_eq_false_iff_ne]; omega
      have hc : (l.length : Int) = 2 + (La.length : Int) - 1 ∨ isL a 0 40 = true ∨ isL b 0 40 = true := by
        rcases hcnt with h | h
        · left; simp only [cntT, if_pos k3a, if_neg k3b] at h; omega
        · exact Or.inr h
      clear hcnt k3a k3b
      by_cases he : (l.length : Int) = 2 + (La.length : Int) - 1
      · have te : ((l.length : Int) == 2 + (La.length : Int) - 1) = true := beq_iff_eq.2 he
        clear WA WB hc he
        go_wp2_with fail
        refine (ON.out).mono ?_; rintro e w18 ⟨rfl, hb18⟩; (try dsimp only)
        have B18 : Hid (Below w.heap.size w w18) := below_on B17.out hb18
        clear hb18 B17 ON p0 p1 p2 p3 p4 p5 p6 p7 u0 u1 u2 u3 u4 u5 u6 u7 q0 q7 z0 z7 hp hq hz hu
        go_wp2
        go_ret
        exact ⟨rfl, B18.out⟩
      · have te : ((l.length : Int) == 2 + (La.length : Int) - 1) = false := beq_eq_false_iff_ne.2 he
        by_cases wa : isL a 0 40 = true
        · rw [wa] at WA
          have WA' := Lib.hid WA
          clear WA WB hc he
          go_wp2_with fail
          refine (WA'.out).mono ?_; rintro e w19 ⟨rfl, rfl⟩; (try dsimp only)
          go_wp2_with fail
          refine (ON.out).mono ?_; rintro e w18 ⟨rfl, hb18⟩; (try dsimp only)
          have B18 : Hid (Below w.heap.size w w18) := below_on B17.out hb18
          clear hb18 B17 ON p0 p1 p2 p3 p4 p5 p6 p7 u0 u1 u2 u3 u4 u5 u6 u7 q0 q7 z0 z7 hp hq hz hu
          go_wp2
          go_ret
          exact ⟨rfl, B18.out⟩
        · rw [Bool.not_eq_true] at wa
          rw [wa] at WA hc
          have wb : isL b 0 40 = true := by rcases hc with h | h | h; exact absurd h he; cases h; exact h
          rw [wb] at WB
          have WA' := Lib.hid WA
          have WB' := Lib.hid WB
          clear WA WB hc he
          go_wp2_with fail
          refine (WA'.out).mono ?_; rintro e w19 ⟨rfl, rfl⟩; (try dsimp only)
          go_wp2_with fail
          refine (WB'.out).mono ?_; rintro e w20 ⟨rfl, rfl⟩; (try dsimp only)
          go_wp2_with fail
          refine (ON.out).mono ?_; rintro e w18 ⟨rfl, hb18⟩; (try dsimp only)
          have B18 : Hid (Below w.heap.size w w18) := below_on B17.out hb18
          clear hb18 B17 ON p0 p1 p2 p3 p4 p5 p6 p7 u0 u1 u2 u3 u4 u5 u6 u7 q0 q7 z0 z7 hp hq hz hu
          go_wp2
          go_ret
          exact ⟨rfl, B18.out⟩
  · have sa : ((ka : Int) == 3) = false := by rw [beq_eq_false_iff_ne]; omega
    by_cases k3b : kb = 3
    · have sb : ((kb : Int) == 3) = true := by rw [beq_iff_eq]; omega
      have hc : (l.length : Int) = 2 + (Lb.length : Int) - 1 ∨ isL a 0 40 = true ∨ isL b 0 40 = true := by
        rcases hcnt with h | h
        · left; simp only [cntT, if_neg k3a, if_pos k3b] at h; omega
        · exact Or.inr h
      clear hcnt k3a k3b
      by_cases he : (l.length : Int) = 2 + (Lb.length : Int) - 1
      · have te : ((l.length : Int) == 2 + (Lb.length : Int) - 1) = true := beq_iff_eq.2 he
        clear WA WB hc he
        go_wp2_with fail
        refine (ON.out).mono ?_; rintro e w18 ⟨rfl, hb18⟩; (try dsimp only)
        have B18 : Hid (Below w.heap.size w w18) := below_on B17.out hb18
        clear hb18 B17 ON p0 p1 p2 p3 p4 p5 p6 p7 u0 u1 u2 u3 u4 u5 u6 u7 q0 q7 z0 z7 hp hq hz hu
        go_wp2
        go_ret
        exact ⟨rfl, B18.out⟩
      · have te : ((l.length : Int) == 2 + (Lb.length : Int) - 1) = false := beq_eq_false_iff_ne.2 he
        by_cases wa : isL a 0 40 = true
        · rw [wa] at WA
          have WA' := Lib.hid WA
          clear WA WB hc he
          go_wp2_with fail
          refine (WA'.out).mono ?_; rintro e w19 ⟨rfl, rfl⟩; (try dsimp only)
          go_wp2_with fail
          refine (ON.out).mono ?_; rintro e w18 ⟨rfl, hb18⟩; (try dsimp only)
          have B18 : Hid (Below w.heap.size w w18) := below_on B17.out hb18
          clear hb18 B17 ON p0 p1 p2 p3 p4 p5 p6 p7 u0 u1 u2 u3 u4 u5 u6 u7 q0 q7 z0 z7 hp hq hz hu
          go_wp2
          go_ret
          exact ⟨rfl, B18.out⟩
        · rw [Bool.not_eq_true] at wa
          rw [wa] at WA hc
          have wb : isL b 0 40 = true := by rcases hc with h | h | h; exact absurd h he; cases h; exact h
          rw [wb] at WB
          have WA' := Lib.hid WA
          have WB' := Lib.hid WB
          clear WA WB hc he
          go_wp2_with fail
          refine (WA'.out).mono ?_; rintro e w19 ⟨rfl, rfl⟩; (try dsimp only)
          go_wp2_with fail
          refine (WB'.out).mono ?_; rintro e w20 ⟨rfl, rfl⟩; (try dsimp only)
          go_wp2_with fail
          refine (ON.out).mono ?_; rintro e w18 ⟨rfl, hb18⟩; (try dsimp only)
          have B18 : Hid (Below w.heap.size w w18) := below_on B17.out hb18
          clear hb18 B17 ON p0 p1 p2 p3 p4 p5 p6 p7 u0 u1 u2 u3 u4 u5 u6 u7 q0 q7 z0 z7 hp hq hz hu
          go_wp2
          go_ret
          exact ⟨rfl, B18.out⟩
    · have sb : ((kb : Int) == 3) = false := by rw [beq_eq_false_iff_ne]; omega
      have hc : (l.length : Int) = 2 ∨ isL a 0 40 = true ∨ isL b 0 40 = true := by
        rcases hcnt with h | h
        · left; simp only [cntT, if_neg k3a, if_neg k3b] at h; omega
        · exact Or.inr h
      clear hcnt k3a k3b
      by_cases he : (l.length : Int) = 2
      · have te : ((l.length : Int) == 2) = true := beq_iff_eq.2 he
        clear WA WB hc he
        go_wp2_with fail
        refine (ON.out).mono ?_; rintro e w18 ⟨rfl, hb18⟩; (try dsimp only)
        have B18 : Hid (Below w.heap.size w w18) := below_on B17.out hb18
        clear hb18 B17 ON p0 p1 p2 p3 p4 p5 p6 p7 u0 u1 u2 u3 u4 u5 u6 u7 q0 q7 z0 z7 hp hq hz hu
        go_wp2
        go_ret
        exact ⟨rfl, B18.out⟩
      · have te : ((l.length : Int) == 2) = false := beq_eq_false_iff_ne.2 he
        by_cases wa : isL a 0 40 = true
        · rw [wa] at WA
          have WA' := Lib.hid WA
          clear WA WB hc he
          go_wp2_with fail
          refine (WA'.out).mono ?_; rintro e w19 ⟨rfl, rfl⟩; (try dsimp only)
          go_wp2_with fail
          refine (ON.out).mono ?_; rintro e w18 ⟨rfl, hb18⟩; (try dsimp only)
          have B18 : Hid (Below w.heap.size w w18) := below_on B17.out hb18
          clear hb18 B17 ON p0 p1 p2 p3 p4 p5 p6 p7 u0 u1 u2 u3 u4 u5 u6 u7 q0 q7 z0 z7 hp hq hz hu
          go_wp2
          go_ret
          exact ⟨rfl, B18.out⟩
        · rw [Bool.not_eq_true] at wa
          rw [wa] at WA hc
          have wb : isL b 0 40 = true := by rcases hc with h | h | h; exact absurd h he; cases h; exact h
          rw [wb] at WB
          have WA' := Lib.hid WA
          have WB' := Lib.hid WB
          clear WA WB hc he
          go_wp2_with fail
          refine (WA'.out).mono ?_; rintro e w19 ⟨rfl, rfl⟩; (try dsimp only)
          go_wp2_with fail
          refine (WB'.out).mono ?_; rintro e w20 ⟨rfl, rfl⟩; (try dsimp only)
          go_wp2_with fail
          refine (ON.out).mono ?_; rintro e w18 ⟨rfl, hb18⟩; (try dsimp only)
          have B18 : Hid (Below w.heap.size w w18) := below_on B17.out hb18
          clear hb18 B17 ON p0 p1 p2 p3 p4 p5 p6 p7 u0 u1 u2 u3 u4 u5 u6 u7 q0 q7 z0 z7 hp hq hz hu
          go_wp2
          go_ret
          exact ⟨rfl, B18.out⟩

theorem joins_w {w : World} {va vb : Value} {a b : List UInt8} (ha : BS w va a) (hb : BS w vb b) (w0 : World) (hM : HM w) :
    Calls Try.prog 3 #[va, vb] w fun e w' => e = .returned (.bool true) ∧ Below w.heap.size w w' := by
  by_cases h1 : 60 < a.length ∨ 60 < b.length
  · exact jo_long a b va vb w ha hb hM h1
  · have k1 : a.length ≤ 60 := by omega
    have k2 : b.length ≤ 60 := by omega
    rcases par_two (l := a) (by omega) with ⟨ta, hta⟩ | ⟨R, x, c, hR, hT⟩
    · rcases par_two (l := b) (by omega) with ⟨tb, htb⟩ | ⟨R, x, c, hR, hT⟩
      · cases ta with
        | node ka pa xa ya La =>
          cases tb with
          | node kb pb xb yb Lb =>
            rcases in_run hta with hin | ⟨x9, hin⟩
            · exact jo_good a b va vb w ha hb hM k1 k2 hta htb hin
            · exact jo_bad a b va vb w ha hb hM k1 k2 hta htb hin
      · exact jo_eb a b va vb w ha hb hM k1 k2 hta hR hT
    · exact jo_ea a b va vb w ha hb hM k1 k2 hR hT
end Go.Proofs.Ytfmekmbdienbjaa
