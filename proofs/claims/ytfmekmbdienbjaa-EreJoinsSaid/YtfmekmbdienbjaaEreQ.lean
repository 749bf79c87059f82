/- Layer 4: the contract of Parse. -/
import Derived.Test.YtfmekmbdienbjaaEreF
import Derived.Test.YtfmekmbdienbjaaEreP
namespace Go.Proofs.Ytfmekmbdienbjaa
set_option linter.unusedSimpArgs false
set_option linter.unusedVariables false
set_option linter.unnecessarySimpa false
open Go.RowKit

/-- What Parse tells of bytes, by what its expression tells. -/
def topR (l : List UInt8) (R : ER) : ER :=
  if 1000 < l.length then .bad 0 5 else match R with
    | .ok t n => if n < l.length then .bad n 4 else .ok t n
    | .bad a c => .bad a c
/-- What Parse hands back. -/
def OutP (w : World) (B : Nat) (R : ER) (cs : Array Value) (ev : Value) : Prop := match R with
  | .ok t _ => ev = .nilIface ∧ PVal w B cs t
  | .bad a c => cs = zeroPA ∧ ∃ b, ev = .iface 47 (.pointer (some ⟨b, 0, none⟩)) ∧ B ≤ b ∧ FRow w b a c
def EndP (w : World) (R : ER) (e : Ending) (w' : World) : Prop := ∃ cs ev, e = .returned (.tuple #[.agg cs, ev]) ∧ OutP w' w.heap.size R cs ev ∧ Below w.heap.size w w'
set_option maxRecDepth 100000 in
set_option maxHeartbeats 8000000 in
theorem par_long {w : World} {v : Value} {l : List UInt8} (h : BS w v l) (hM : HM w) (hl : 1000 < l.length) (hl9 : l.length ≤ 1000000000) :
    Calls Try.prog 6 #[v] w fun e w' => EndP w (.bad 0 5) e w' := by
  have HF : Hid (∀ a c W, Calls Try.prog 11 #[.int .i64 ((a : Nat) : Int), .int .i64 ((c : Nat) : Int)] W fun e w' => e = .returned (.iface 47 (.pointer (some ⟨W.heap.size, 0, none⟩))) ∧ w' = W.alloc (.cells #[.int .i64 (a : Int), .iface 41 (.int .i64 (c : Int))] 49)) := fun a c W => efault_u a c W
  obtain ⟨p, cp, rfl, hlc, hcm, hU⟩ := h
  clear hU hM
  have t0 : decide ((1000 : Int) < (l.length : Int)) = true := decide_eq_true (by omega)
  have t0' : decide (1000 < l.length) = true := decide_eq_true hl
  clear hl
  go_enter Try.func6, Try.ntmps6
  go_upto_region 1 with fail
  have K1 : Hid (Below w.heap.size w (w.alloc (.cells zeroPA 29))) := (Below.refl _ _).alloc (Nat.le_refl _) _
  have r2 : Hid (Row (w.alloc (.cells zeroPA 29)) w.heap.size 29 zeroPA) := Row.new w _ _
  generalize w.alloc (.cells zeroPA 29) = w1 at *
  obtain ⟨g2, hg2⟩ : ∃ g, g = w.heap.size := ⟨_, rfl⟩
  rw [← hg2]
  rw [← hg2] at r2
  have hg2B : Hid (w.heap.size ≤ g2) := Nat.le_of_eq hg2.symm
  clear hg2
  go_wp2_with fail
  refine (HF.out 0 5 _).mono ?_; rintro e w3 ⟨rfl, hw3⟩; (try dsimp only)
  have R4 : Row w3 g2 29 zeroPA := by rw [hw3]; exact r2.out.alloc _
  have F4 : FRow w3 w1.heap.size 0 5 := by rw [hw3]; exact Row.new w1 _ _
  have K4 : Below w.heap.size w w3 := by rw [hw3]; exact K1.out.alloc K1.out.size _
  have HR4 := Lib.hid R4
  obtain ⟨j0, j1, j2, j3, j4, j5, j6, j7, f0, f1, f2, f3, f4, f5, f6, f7, z4⟩ := R4.eight
  have R5 := Lib.hid (R4.setRow_same zeroPA)
  have F5 : Hid (FRow (w3.setRow g2 zeroPA) w1.heap.size 0 5) := F4.setRow (Nat.ne_of_gt r2.out.lt) _
  have K5 : Hid (Below w.heap.size w (w3.setRow g2 zeroPA)) := below_setRow K4 hg2B.out _
  have hwb : Hid (w.heap.size ≤ w1.heap.size) := K1.out.size
  clear R4 F4 K4 hw3
  go_wp2
  rw [set8 HR4.out]
  exact bodyPost_ret (pret rfl R5.out rfl rfl rfl) rfl ⟨zeroPA, _, rfl, ⟨rfl, _, rfl, hwb.out, F5.out⟩, K5.out⟩
set_option maxRecDepth 100000 in
set_option maxHeartbeats 8000000 in
theorem par_bad {w : World} {v : Value} {l : List UInt8} (h : BS w v l) (hM : HM w) (hl : l.length ≤ 1000) (a cc : Nat) (hR : RunE l (.exp 0 0 []) (.bad a cc)) :
    Calls Try.prog 6 #[v] w fun e w' => EndP w (.bad a cc) e w' := by
  have t0 : decide ((1000 : Int) < (l.length : Int)) = false := decide_eq_false (by omega)
  have t0' : decide (1000 < l.length) = false := decide_eq_false (by omega)
  have HB := Lib.hid h
  have HM0 := Lib.hid hM
  obtain ⟨p, cp, rfl, hlc, hcm, hU⟩ := h
  clear hU hM
  have HX : Hid (∀ W, Env W (w.heap.size + 1) (.slice p l.length cp) l → RD W (w.heap.size + 1) (.slice p l.length cp) 0 0 → Calls Try.prog 12 #[.pointer (some ⟨w.heap.size + 1, 0, none⟩)] W fun e w' => EndR (w.heap.size + 1) (.slice p l.length cp) 0 W (.bad a cc) e w') := fun W E D => exp_all (by omega) _ _ (l.length + 1) 0 0 _ W (by omega) (Nat.zero_le _) (by omega) hR E D
  have HRR := Lib.hid hR
  clear hR
  go_enter Try.func6, Try.ntmps6
  go_upto_region 4 with fail
  have hBa : Below w.heap.size w (w.alloc (.cells zeroPA 29)) := (Below.refl _ _).alloc (Nat.le_refl _) _
  have hBb : Below w.heap.size w ((w.alloc (.cells zeroPA 29)).alloc (.cells #[(.slice p l.length cp), .int .i64 0, .int .i64 0] 43)) := hBa.alloc hBa.size _
  have K1 := Lib.hid hBb
  have r2 : Hid (Row ((w.alloc (.cells zeroPA 29)).alloc (.cells #[(.slice p l.length cp), .int .i64 0, .int .i64 0] 43)) w.heap.size 29 zeroPA) := (Row.new w _ _).alloc _
  have R1 : Hid (RD ((w.alloc (.cells zeroPA 29)).alloc (.cells #[(.slice p l.length cp), .int .i64 0, .int .i64 0] 43)) (w.heap.size + 1) (.slice p l.length cp) 0 0) := Row.new' (by simp)
  have E1 : Hid (Env ((w.alloc (.cells zeroPA 29)).alloc (.cells #[(.slice p l.length cp), .int .i64 0, .int .i64 0] 43)) (w.heap.size + 1) (.slice p l.length cp) l) := by
    refine ⟨?_, ?_, by simp⟩
    · obtain ⟨p', c', e, h1, h2, h3⟩ := HB.out
      refine ⟨p', c', e, h1, h2, fun hn => ?_⟩
      obtain ⟨b, o, e', hb, hc⟩ := h3 hn
      exact ⟨b, o, e', by omega, fun j hj => (hBb.cell (p := ⟨b, o + j, none⟩) hb).trans (hc j hj)⟩
    · obtain ⟨m, h1, h2⟩ := HM0.out
      exact ⟨m, (hBb.cell (p := ⟨0, 0, none⟩) h2).trans h1, by omega⟩
  clear hBa hBb HB HM0
  generalize ((w.alloc (.cells zeroPA 29)).alloc (.cells #[(.slice p l.length cp), .int .i64 0, .int .i64 0] 43)) = w1 at *
  obtain ⟨g2, hg2⟩ : ∃ g, g = w.heap.size := ⟨_, rfl⟩
  rw [← hg2]
  rw [← hg2] at r2 R1 E1 HX
  have hg2B : Hid (w.heap.size ≤ g2) := Nat.le_of_eq hg2.symm
  obtain ⟨rb, hrb⟩ : ∃ x, x = g2 + 1 := ⟨_, rfl⟩
  rw [← hrb] at R1 E1 HX
  have hgr : g2 < rb := by omega
  have HRB := Lib.hid hrb
  clear hg2 hrb
  have hrl := R1.out.lt
  have hgl : g2 < w1.heap.size := r2.out.lt
  go_wp2_with fail
  rw [show g2 + 1 = rb from HRB.out.symm]
  refine (HX.out _ E1.out R1.out).mono ?_
  rintro e w5 ⟨cs, ev, rfl, hout, hat, hkp⟩; (try dsimp only)
  have hE5 := E1.out.on hkp
  have r2' : Row w5 g2 29 zeroPA := r2.out.kept hkp hgl (by omega)
  have K5 : Below w.heap.size w w5 := K1.out.trans ((hkp.below (by have := hg2B.out; omega) K1.out.size))
  have hsz1 : Hid (w.heap.size ≤ w1.heap.size) := K1.out.size
  clear r2 R1 E1 K1 hkp HX
  obtain ⟨rfl, b, rfl, hb1, hb2, hb3⟩ := hout
  have HR4 := Lib.hid r2'
  obtain ⟨j0, j1, j2, j3, j4, j5, j6, j7, f0, f1, f2, f3, f4, f5, f6, f7, z4⟩ := r2'.eight
  have r6 : Row (w5.setRow g2 zeroPA) g2 29 zeroPA := r2'.setRow_same _
  have F6 := Lib.hid (hb3.setRow (g := g2) (by omega) zeroPA)
  have K6 := Lib.hid (below_setRow K5 hg2B.out zeroPA)
  have hbw : Hid (w.heap.size ≤ b) := Nat.le_trans hsz1.out hb1
  have hbg : b ≠ g2 := by omega
  clear hat hE5 hb1 hb2 hb3 K5 r2'
  go_upto_region 5 with fail
  rw [set8 HR4.out]
  clear j0 j1 j2 j3 j4 j5 j6 j7 f0 f1 f2 f3 f4 f5 f6 f7 z4
  generalize w5.setRow g2 zeroPA = w6 at *
  have HR6 := Lib.hid r6
  obtain ⟨j0, j1, j2, j3, j4, j5, j6, j7, f0, f1, f2, f3, f4, f5, f6, f7, z4⟩ := r6.eight
  have R5 := Lib.hid (r6.setRow_same zeroPA)
  have F5 := Lib.hid (F6.out.setRow hbg zeroPA)
  have K7 := Lib.hid (below_setRow K6.out hg2B.out zeroPA)
  clear r6
  go_wp2
  rw [set8 HR6.out]
  exact bodyPost_ret (pret rfl R5.out rfl rfl rfl) rfl ⟨zeroPA, _, rfl, ⟨rfl, _, rfl, hbw.out, F5.out⟩, K7.out⟩
set_option maxRecDepth 100000 in
set_option maxHeartbeats 8000000 in
theorem par_rest {w : World} {v : Value} {l : List UInt8} (h : BS w v l) (hM : HM w) (hl : l.length ≤ 1000) (t : PT) (n : Nat) (hn : n < l.length) (hR : RunE l (.exp 0 0 []) (.ok t n)) :
    Calls Try.prog 6 #[v] w fun e w' => EndP w (.bad n 4) e w' := by
  have HF : Hid (∀ a c W, Calls Try.prog 11 #[.int .i64 ((a : Nat) : Int), .int .i64 ((c : Nat) : Int)] W fun e w' => e = .returned (.iface 47 (.pointer (some ⟨W.heap.size, 0, none⟩))) ∧ w' = W.alloc (.cells #[.int .i64 (a : Int), .iface 41 (.int .i64 (c : Int))] 49)) := fun a c W => efault_u a c W
  have t0 : decide ((1000 : Int) < (l.length : Int)) = false := decide_eq_false (by omega)
  have t0' : decide (1000 < l.length) = false := decide_eq_false (by omega)
  have HB := Lib.hid h
  have HM0 := Lib.hid hM
  obtain ⟨p, cp, rfl, hlc, hcm, hU⟩ := h
  clear hU hM
  have HX : Hid (∀ W, Env W (w.heap.size + 1) (.slice p l.length cp) l → RD W (w.heap.size + 1) (.slice p l.length cp) 0 0 → Calls Try.prog 12 #[.pointer (some ⟨w.heap.size + 1, 0, none⟩)] W fun e w' => EndR (w.heap.size + 1) (.slice p l.length cp) 0 W (.ok t n) e w') := fun W E D => exp_all (by omega) _ _ (l.length + 1) 0 0 _ W (by omega) (Nat.zero_le _) (by omega) hR E D
  have HRR := Lib.hid hR
  clear hR
  go_enter Try.func6, Try.ntmps6
  go_upto_region 4 with fail
  have hBa : Below w.heap.size w (w.alloc (.cells zeroPA 29)) := (Below.refl _ _).alloc (Nat.le_refl _) _
  have hBb : Below w.heap.size w ((w.alloc (.cells zeroPA 29)).alloc (.cells #[(.slice p l.length cp), .int .i64 0, .int .i64 0] 43)) := hBa.alloc hBa.size _
  have K1 := Lib.hid hBb
  have r2 : Hid (Row ((w.alloc (.cells zeroPA 29)).alloc (.cells #[(.slice p l.length cp), .int .i64 0, .int .i64 0] 43)) w.heap.size 29 zeroPA) := (Row.new w _ _).alloc _
  have R1 : Hid (RD ((w.alloc (.cells zeroPA 29)).alloc (.cells #[(.slice p l.length cp), .int .i64 0, .int .i64 0] 43)) (w.heap.size + 1) (.slice p l.length cp) 0 0) := Row.new' (by simp)
  have E1 : Hid (Env ((w.alloc (.cells zeroPA 29)).alloc (.cells #[(.slice p l.length cp), .int .i64 0, .int .i64 0] 43)) (w.heap.size + 1) (.slice p l.length cp) l) := by
    refine ⟨?_, ?_, by simp⟩
    · obtain ⟨p', c', e, h1, h2, h3⟩ := HB.out
      refine ⟨p', c', e, h1, h2, fun hn => ?_⟩
      obtain ⟨b, o, e', hb, hc⟩ := h3 hn
      exact ⟨b, o, e', by omega, fun j hj => (hBb.cell (p := ⟨b, o + j, none⟩) hb).trans (hc j hj)⟩
    · obtain ⟨m, h1, h2⟩ := HM0.out
      exact ⟨m, (hBb.cell (p := ⟨0, 0, none⟩) h2).trans h1, by omega⟩
  clear hBa hBb HB HM0
  generalize ((w.alloc (.cells zeroPA 29)).alloc (.cells #[(.slice p l.length cp), .int .i64 0, .int .i64 0] 43)) = w1 at *
  obtain ⟨g2, hg2⟩ : ∃ g, g = w.heap.size := ⟨_, rfl⟩
  rw [← hg2]
  rw [← hg2] at r2 R1 E1 HX
  have hg2B : Hid (w.heap.size ≤ g2) := Nat.le_of_eq hg2.symm
  obtain ⟨rb, hrb⟩ : ∃ x, x = g2 + 1 := ⟨_, rfl⟩
  rw [← hrb] at R1 E1 HX
  have hgr : g2 < rb := by omega
  have HRB := Lib.hid hrb
  clear hg2 hrb
  have hrl := R1.out.lt
  have hgl : g2 < w1.heap.size := r2.out.lt
  go_wp2_with fail
  rw [show g2 + 1 = rb from HRB.out.symm]
  refine (HX.out _ E1.out R1.out).mono ?_
  rintro e w5 ⟨cs, ev, rfl, hout, hat, hkp⟩; (try dsimp only)
  have hE5 := E1.out.on hkp
  have r2' : Row w5 g2 29 zeroPA := r2.out.kept hkp hgl (by omega)
  have K5 : Below w.heap.size w w5 := K1.out.trans ((hkp.below (by have := hg2B.out; omega) K1.out.size))
  have hsz1 : Hid (w.heap.size ≤ w1.heap.size) := K1.out.size
  clear r2 R1 E1 K1 hkp HX
  obtain ⟨rfl, hp⟩ := hout
  obtain ⟨k', P, a', b', ad', n', cap', rfl⟩ := hp.inv
  have HR4 := Lib.hid r2'
  obtain ⟨j0, j1, j2, j3, j4, j5, j6, j7, f0, f1, f2, f3, f4, f5, f6, f7, z4⟩ := r2'.eight
  have r6 : Row (w5.setRow g2 (partA k' P a' b' (.slice ad' n' cap'))) g2 29 (partA k' P a' b' (.slice ad' n' cap')) := r2'.setRow_same _
  have P6 := Lib.hid (PVal.setRow hp hgl (partA k' P a' b' (.slice ad' n' cap')))
  have K6 := Lib.hid (below_setRow K5 hg2B.out (partA k' P a' b' (.slice ad' n' cap')))
  have R6 : Hid (RD (w5.setRow g2 (partA k' P a' b' (.slice ad' n' cap'))) rb (.slice p l.length cp) n 0) := Row.setRow hat (by omega) _
  have hrn : n ≤ l.length := (runE_adv HRR.out _ _ rfl (Nat.zero_le _)).2
  clear hat hE5 hp K5 r2' HRR
  go_upto_region 5 with fail
  rw [set8 HR4.out]
  clear j0 j1 j2 j3 j4 j5 j6 j7 f0 f1 f2 f3 f4 f5 f6 f7 z4
  generalize w5.setRow g2 (partA k' P a' b' (.slice ad' n' cap')) = w6 at *
  have c0 : w6.cell? ⟨rb, 0, none⟩ = some (.slice p l.length cp) := R6.out.cell 0
  have c1 : w6.cell? ⟨rb, 1, none⟩ = some (.int .i64 (n : Int)) := R6.out.cell 1
  have hlt1 := R6.out.lt
  have t1 : decide ((n : Int) < (l.length : Int)) = true := decide_eq_true (by omega)
  have t1' : decide (n < l.length) = true := decide_eq_true hn
  clear P6
  go_wp2_with fail
  refine (HF.out n 4 _).mono ?_; rintro e w3 ⟨rfl, hw3⟩; (try dsimp only)
  have R4 : Row w3 g2 29 (partA k' P a' b' (.slice ad' n' cap')) := by rw [hw3]; exact r6.alloc _
  have F4 : FRow w3 w6.heap.size n 4 := by rw [hw3]; exact Row.new w6 _ _
  have K4 : Below w.heap.size w w3 := by rw [hw3]; exact K6.out.alloc K6.out.size _
  have HR9 := Lib.hid R4
  obtain ⟨j0, j1, j2, j3, j4, j5, j6, j7, f0, f1, f2, f3, f4, f5, f6, f7, z4⟩ := R4.eight
  have R5 := Lib.hid (R4.setRow_same zeroPA)
  have F5 : Hid (FRow (w3.setRow g2 zeroPA) w6.heap.size n 4) := F4.setRow (Nat.ne_of_gt r6.lt) _
  have K5 : Hid (Below w.heap.size w (w3.setRow g2 zeroPA)) := below_setRow K4 hg2B.out _
  have hwb : Hid (w.heap.size ≤ w6.heap.size) := K6.out.size
  clear R4 F4 K4 hw3
  go_wp2
  rw [set8 HR9.out]
  exact bodyPost_ret (pret rfl R5.out rfl rfl rfl) rfl ⟨zeroPA, _, rfl, ⟨rfl, _, rfl, hwb.out, F5.out⟩, K5.out⟩
set_option maxRecDepth 100000 in
set_option maxHeartbeats 8000000 in
theorem par_ok {w : World} {v : Value} {l : List UInt8} (h : BS w v l) (hM : HM w) (hl : l.length ≤ 1000) (t : PT) (n : Nat) (hn : n = l.length) (hR : RunE l (.exp 0 0 []) (.ok t n)) :
    Calls Try.prog 6 #[v] w fun e w' => EndP w (.ok t n) e w' := by
  have t0 : decide ((1000 : Int) < (l.length : Int)) = false := decide_eq_false (by omega)
  have t0' : decide (1000 < l.length) = false := decide_eq_false (by omega)
  have HB := Lib.hid h
  have HM0 := Lib.hid hM
  obtain ⟨p, cp, rfl, hlc, hcm, hU⟩ := h
  clear hU hM
  have HX : Hid (∀ W, Env W (w.heap.size + 1) (.slice p l.length cp) l → RD W (w.heap.size + 1) (.slice p l.length cp) 0 0 → Calls Try.prog 12 #[.pointer (some ⟨w.heap.size + 1, 0, none⟩)] W fun e w' => EndR (w.heap.size + 1) (.slice p l.length cp) 0 W (.ok t n) e w') := fun W E D => exp_all (by omega) _ _ (l.length + 1) 0 0 _ W (by omega) (Nat.zero_le _) (by omega) hR E D
  have HRR := Lib.hid hR
  clear hR
  go_enter Try.func6, Try.ntmps6
  go_upto_region 4 with fail
  have hBa : Below w.heap.size w (w.alloc (.cells zeroPA 29)) := (Below.refl _ _).alloc (Nat.le_refl _) _
  have hBb : Below w.heap.size w ((w.alloc (.cells zeroPA 29)).alloc (.cells #[(.slice p l.length cp), .int .i64 0, .int .i64 0] 43)) := hBa.alloc hBa.size _
  have K1 := Lib.hid hBb
  have r2 : Hid (Row ((w.alloc (.cells zeroPA 29)).alloc (.cells #[(.slice p l.length cp), .int .i64 0, .int .i64 0] 43)) w.heap.size 29 zeroPA) := (Row.new w _ _).alloc _
  have R1 : Hid (RD ((w.alloc (.cells zeroPA 29)).alloc (.cells #[(.slice p l.length cp), .int .i64 0, .int .i64 0] 43)) (w.heap.size + 1) (.slice p l.length cp) 0 0) := Row.new' (by simp)
  have E1 : Hid (Env ((w.alloc (.cells zeroPA 29)).alloc (.cells #[(.slice p l.length cp), .int .i64 0, .int .i64 0] 43)) (w.heap.size + 1) (.slice p l.length cp) l) := by
    refine ⟨?_, ?_, by simp⟩
    · obtain ⟨p', c', e, h1, h2, h3⟩ := HB.out
      refine ⟨p', c', e, h1, h2, fun hn => ?_⟩
      obtain ⟨b, o, e', hb, hc⟩ := h3 hn
      exact ⟨b, o, e', by omega, fun j hj => (hBb.cell (p := ⟨b, o + j, none⟩) hb).trans (hc j hj)⟩
    · obtain ⟨m, h1, h2⟩ := HM0.out
      exact ⟨m, (hBb.cell (p := ⟨0, 0, none⟩) h2).trans h1, by omega⟩
  clear hBa hBb HB HM0
  generalize ((w.alloc (.cells zeroPA 29)).alloc (.cells #[(.slice p l.length cp), .int .i64 0, .int .i64 0] 43)) = w1 at *
  obtain ⟨g2, hg2⟩ : ∃ g, g = w.heap.size := ⟨_, rfl⟩
  rw [← hg2]
  rw [← hg2] at r2 R1 E1 HX
  have hg2B : Hid (w.heap.size ≤ g2) := Nat.le_of_eq hg2.symm
  obtain ⟨rb, hrb⟩ : ∃ x, x = g2 + 1 := ⟨_, rfl⟩
  rw [← hrb] at R1 E1 HX
  have hgr : g2 < rb := by omega
  have HRB := Lib.hid hrb
  clear hg2 hrb
  have hrl := R1.out.lt
  have hgl : g2 < w1.heap.size := r2.out.lt
  go_wp2_with fail
  rw [show g2 + 1 = rb from HRB.out.symm]
  refine (HX.out _ E1.out R1.out).mono ?_
  rintro e w5 ⟨cs, ev, rfl, hout, hat, hkp⟩; (try dsimp only)
  have hE5 := E1.out.on hkp
  have r2' : Row w5 g2 29 zeroPA := r2.out.kept hkp hgl (by omega)
  have K5 : Below w.heap.size w w5 := K1.out.trans ((hkp.below (by have := hg2B.out; omega) K1.out.size))
  have hsz1 : Hid (w.heap.size ≤ w1.heap.size) := K1.out.size
  clear r2 R1 E1 K1 hkp HX
  obtain ⟨rfl, hp⟩ := hout
  obtain ⟨k', P, a', b', ad', n', cap', rfl⟩ := hp.inv
  have HR4 := Lib.hid r2'
  obtain ⟨j0, j1, j2, j3, j4, j5, j6, j7, f0, f1, f2, f3, f4, f5, f6, f7, z4⟩ := r2'.eight
  have r6 : Row (w5.setRow g2 (partA k' P a' b' (.slice ad' n' cap'))) g2 29 (partA k' P a' b' (.slice ad' n' cap')) := r2'.setRow_same _
  have P6 := Lib.hid (PVal.setRow hp hgl (partA k' P a' b' (.slice ad' n' cap')))
  have K6 := Lib.hid (below_setRow K5 hg2B.out (partA k' P a' b' (.slice ad' n' cap')))
  have R6 : Hid (RD (w5.setRow g2 (partA k' P a' b' (.slice ad' n' cap'))) rb (.slice p l.length cp) n 0) := Row.setRow hat (by omega) _
  have hrn : n ≤ l.length := (runE_adv HRR.out _ _ rfl (Nat.zero_le _)).2
  clear hat hE5 hp K5 r2' HRR
  go_upto_region 5 with fail
  rw [set8 HR4.out]
  clear j0 j1 j2 j3 j4 j5 j6 j7 f0 f1 f2 f3 f4 f5 f6 f7 z4
  generalize w5.setRow g2 (partA k' P a' b' (.slice ad' n' cap')) = w6 at *
  have c0 : w6.cell? ⟨rb, 0, none⟩ = some (.slice p l.length cp) := R6.out.cell 0
  have c1 : w6.cell? ⟨rb, 1, none⟩ = some (.int .i64 (n : Int)) := R6.out.cell 1
  have hlt1 := R6.out.lt
  have t1 : decide ((n : Int) < (l.length : Int)) = false := decide_eq_false (by omega)
  have t1' : decide (n < l.length) = false := decide_eq_false (by omega)
  have HR9 := Lib.hid r6
  obtain ⟨j0, j1, j2, j3, j4, j5, j6, j7, f0, f1, f2, f3, f4, f5, f6, f7, z4⟩ := r6.eight
  have R5 := Lib.hid (r6.setRow_same (partA k' P a' b' (.slice ad' n' cap')))
  have P5 := Lib.hid ((PVal.setRow P6.out hgl (partA k' P a' b' (.slice ad' n' cap'))).le hsz1.out)
  have K5 := Lib.hid (below_setRow K6.out hg2B.out (partA k' P a' b' (.slice ad' n' cap')))
  clear r6 P6 K6 hn
  go_wp2
  rw [set8 HR9.out]
  exact bodyPost_ret (pret rfl R5.out rfl rfl rfl) rfl ⟨_, _, rfl, ⟨rfl, P5.out⟩, K5.out⟩
theorem par_u {w : World} {v : Value} {l : List UInt8} (h : BS w v l) (hM : HM w) (hl9 : l.length ≤ 1000000000) (R : ER) (hR : RunE l (.exp 0 0 []) R) :
    Calls Try.prog 6 #[v] w fun e w' => EndP w (topR l R) e w' := by
  unfold topR
  by_cases hl : 1000 < l.length
  · rw [if_pos hl]; exact par_long h hM hl hl9
  · rw [if_neg hl]
    cases R with
    | bad a c => exact par_bad h hM (by omega) a c hR
    | ok t n =>
      show Calls _ _ _ _ fun e w' => EndP w (if n < l.length then .bad n 4 else .ok t n) e w'
      by_cases hn : n < l.length
      · rw [if_pos hn]; exact par_rest h hM (by omega) t n hn hR
      · rw [if_neg hn]
        exact par_ok h hM (by omega) t n (by have := (runE_adv hR _ _ rfl (Nat.zero_le _)).2; omega) hR
end Go.Proofs.Ytfmekmbdienbjaa
