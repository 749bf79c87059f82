/- Layer 4: the contract of group. -/
import Derived.Test.YtfmekmbdienbjaaEreF
namespace Go.Proofs.Ytfmekmbdienbjaa
set_option linter.unusedSimpArgs false
set_option linter.unusedVariables false
set_option linter.unnecessarySimpa false
open Go.RowKit

set_option maxRecDepth 100000 in
set_option maxHeartbeats 8000000 in
theorem grp_deep {w : World} {rb : Nat} {v : Value} {l : List UInt8} (h : Env w rb v l) (hl : l.length ≤ 1000000000) (k o : Nat) (hk : k < l.length) (hr : RD w rb v k o) (ho : o = 64) :
    Calls Try.prog 23 #[.pointer (some ⟨rb, 0, none⟩)] w fun e w' => EndR rb v o w (.bad k 6) e w' := by
  have HF : Hid (∀ a c W, Calls Try.prog 11 #[.int .i64 ((a : Nat) : Int), .int .i64 ((c : Nat) : Int)] W fun e w' => e = .returned (.iface 47 (.pointer (some ⟨W.heap.size, 0, none⟩))) ∧ w' = W.alloc (.cells #[.int .i64 (a : Int), .iface 41 (.int .i64 (c : Int))] 49)) := fun a c W => efault_u a c W
  have H := Lib.hid h
  have HR := Lib.hid hr
  have hrl := h.rl
  obtain ⟨k1, hk1⟩ : ∃ x, x = k + 1 := ⟨_, rfl⟩
  obtain ⟨k2, hk2⟩ : ∃ x, x = k + 2 := ⟨_, rfl⟩
  have wk : IntKind.i64.wrap ((k : Int) + 1) = (k1 : Int) := by rw [IntKind.wrap_i64]; omega
  have wk2 : IntKind.i64.wrap ((k : Int) + 2) = (k2 : Int) := by rw [IntKind.wrap_i64]; omega
  have HK1 := Lib.hid hk1
  have HK2 := Lib.hid hk2
  clear h hr
  go_enter Try.func23, Try.ntmps23
  go_upto_region 1 with fail
  have K1 : Hid (Kept rb w.heap.size w (w.alloc (.cells zeroPA 29))) := (Kept.refl _ _ _).alloc (Nat.le_refl _) _
  have r2 : Hid (Row (w.alloc (.cells zeroPA 29)) w.heap.size 29 zeroPA) := Row.new w _ _
  have R1 : Hid (RD (w.alloc (.cells zeroPA 29)) rb v k o) := HR.out.on ((Below.refl _ _).alloc (Nat.le_refl _) _)
  have E1 : Hid (Env (w.alloc (.cells zeroPA 29)) rb v l) := H.out.on K1.out
  generalize w.alloc (.cells zeroPA 29) = w1 at *
  obtain ⟨g2, hg2⟩ : ∃ g, g = w.heap.size := ⟨_, rfl⟩
  rw [← hg2]
  rw [← hg2] at r2
  have hg2l : rb < g2 := by rw [hg2]; exact hrl
  have hg2B : Hid (w.heap.size ≤ g2) := Nat.le_of_eq hg2.symm
  clear hg2 H HR hrl hk1 hk2
  obtain ⟨p, cp, rfl, hlc, hcm, hU⟩ := E1.out.bs
  clear hU
  have c0 : w1.cell? ⟨rb, 0, none⟩ = some (.slice p l.length cp) := R1.out.cell 0
  have c1 : w1.cell? ⟨rb, 1, none⟩ = some (.int .i64 ((k : Nat) : Int)) := R1.out.cell 1
  have c2 : w1.cell? ⟨rb, 2, none⟩ = some (.int .i64 64) := by subst ho; exact R1.out.cell 2
  have z1 : w1.frozen? ⟨rb, 1, none⟩ = false := R1.out.froz 1
  have z2 : w1.frozen? ⟨rb, 2, none⟩ = false := R1.out.froz 2
  have hlt1 := R1.out.lt
  subst ho
  go_wp2_with fail
  refine (HF.out k 6 _).mono ?_; rintro e w3 ⟨rfl, hw3⟩; (try dsimp only)
  have R4 : Row w3 g2 29 zeroPA := by rw [hw3]; exact r2.out.alloc _
  have F4 : FRow w3 w1.heap.size k 6 := by rw [hw3]; exact Row.new w1 _ _
  have D4 : RD w3 rb (.slice p l.length cp) k 64 := by rw [hw3]; exact R1.out.alloc _
  have K4 : Kept rb w.heap.size w w3 := by rw [hw3]; exact K1.out.alloc K1.out.size _
  have HR4 := Lib.hid R4
  obtain ⟨j0, j1, j2, j3, j4, j5, j6, j7, f0, f1, f2, f3, f4, f5, f6, f7, z4⟩ := R4.eight
  have R5 := Lib.hid (R4.setRow_same zeroPA)
  have F5 : Hid (FRow (w3.setRow g2 zeroPA) w1.heap.size k 6) := F4.setRow (Nat.ne_of_gt r2.out.lt) _
  have D5 : Hid (RD (w3.setRow g2 zeroPA) rb (.slice p l.length cp) k 64) := D4.setRow (by omega) _
  have K5 : Hid (Kept rb w.heap.size w (w3.setRow g2 zeroPA)) := K4.setRow (Or.inl hg2B.out) _
  have hne : Hid (w1.heap.size ≠ rb) := Nat.ne_of_gt R1.out.lt
  have hwb : Hid (w.heap.size ≤ w1.heap.size) := K1.out.size
  clear R4 F4 D4 K4 hw3
  go_wp2
  rw [set8 HR4.out]
  exact bodyPost_ret (pret rfl R5.out rfl rfl rfl) rfl ⟨zeroPA, _, rfl, ⟨rfl, _, rfl, hwb.out, hne.out, F5.out⟩, ⟨k, 64, D5.out⟩, K5.out⟩
set_option maxRecDepth 100000 in
set_option maxHeartbeats 8000000 in
theorem grp_bad {w : World} {rb : Nat} {v : Value} {l : List UInt8} (h : Env w rb v l) (hl : l.length ≤ 1000000000) (k o : Nat) (hk : k < l.length) (hr : RD w rb v k o) (ho : o < 64) (a cc : Nat) (HX : Hid (∀ W, Env W rb v l → RD W rb v (k + 1) (o + 1) → Calls Try.prog 12 #[.pointer (some ⟨rb, 0, none⟩)] W fun e w' => EndR rb v (o + 1) W (.bad a cc) e w')) :
    Calls Try.prog 23 #[.pointer (some ⟨rb, 0, none⟩)] w fun e w' => EndR rb v o w (.bad a cc) e w' := by
  have H := Lib.hid h
  have HR := Lib.hid hr
  have hrl := h.rl
  obtain ⟨k1, hk1⟩ : ∃ x, x = k + 1 := ⟨_, rfl⟩
  obtain ⟨k2, hk2⟩ : ∃ x, x = k + 2 := ⟨_, rfl⟩
  have wk : IntKind.i64.wrap ((k : Int) + 1) = (k1 : Int) := by rw [IntKind.wrap_i64]; omega
  have wk2 : IntKind.i64.wrap ((k : Int) + 2) = (k2 : Int) := by rw [IntKind.wrap_i64]; omega
  have HK1 := Lib.hid hk1
  have HK2 := Lib.hid hk2
  obtain ⟨o1, ho1⟩ : ∃ x, x = o + 1 := ⟨_, rfl⟩
  have wo : IntKind.i64.wrap ((o : Int) + 1) = (o1 : Int) := by rw [IntKind.wrap_i64]; omega
  have HO1 := Lib.hid ho1
  have t64 : ((o : Int) == 64) = false := by rw [beq_eq_false_iff_ne]; omega
  clear ho1
  rw [← hk1, ← (show o1 = o + 1 from HO1.out)] at HX
  clear h hr
  go_enter Try.func23, Try.ntmps23
  go_upto_region 1 with fail
  have K1 : Hid (Kept rb w.heap.size w (w.alloc (.cells zeroPA 29))) := (Kept.refl _ _ _).alloc (Nat.le_refl _) _
  have r2 : Hid (Row (w.alloc (.cells zeroPA 29)) w.heap.size 29 zeroPA) := Row.new w _ _
  have R1 : Hid (RD (w.alloc (.cells zeroPA 29)) rb v k o) := HR.out.on ((Below.refl _ _).alloc (Nat.le_refl _) _)
  have E1 : Hid (Env (w.alloc (.cells zeroPA 29)) rb v l) := H.out.on K1.out
  generalize w.alloc (.cells zeroPA 29) = w1 at *
  obtain ⟨g2, hg2⟩ : ∃ g, g = w.heap.size := ⟨_, rfl⟩
  rw [← hg2]
  rw [← hg2] at r2
  have hg2l : rb < g2 := by rw [hg2]; exact hrl
  have hg2B : Hid (w.heap.size ≤ g2) := Nat.le_of_eq hg2.symm
  clear hg2 H HR hrl hk1 hk2
  obtain ⟨p, cp, rfl, hlc, hcm, hU⟩ := E1.out.bs
  clear hU
  have c0 : w1.cell? ⟨rb, 0, none⟩ = some (.slice p l.length cp) := R1.out.cell 0
  have c1 : w1.cell? ⟨rb, 1, none⟩ = some (.int .i64 ((k : Nat) : Int)) := R1.out.cell 1
  have c2 : w1.cell? ⟨rb, 2, none⟩ = some (.int .i64 ((o : Nat) : Int)) := R1.out.cell 2
  have z1 : w1.frozen? ⟨rb, 1, none⟩ = false := R1.out.froz 1
  have z2 : w1.frozen? ⟨rb, 2, none⟩ = false := R1.out.froz 2
  have hlt1 := R1.out.lt
  go_upto_region 5 with fail
  have r2' : Hid (Row ((w1.setCell ⟨rb, 2, none⟩ (.int .i64 (o1 : Int))).setCell ⟨rb, 1, none⟩ (.int .i64 (k1 : Int))) g2 29 zeroPA) := (r2.out.far (by simp; omega) _).far (by simp; omega) _
  have R1' : Hid (RD ((w1.setCell ⟨rb, 2, none⟩ (.int .i64 (o1 : Int))).setCell ⟨rb, 1, none⟩ (.int .i64 (k1 : Int))) rb (.slice p l.length cp) k1 o1) := (R1.out.set 2 _).set 1 _
  have K1' := Lib.hid ((K1.out.setCell (p := ⟨rb, 2, none⟩) (Or.inr rfl) (.int .i64 (o1 : Int))).setCell (p := ⟨rb, 1, none⟩) (Or.inr rfl) (.int .i64 (k1 : Int)))
  have E1' := Lib.hid (E1.out.on (((Kept.refl rb w1.heap.size w1).setCell (p := ⟨rb, 2, none⟩) (Or.inr rfl) (.int .i64 (o1 : Int))).setCell (p := ⟨rb, 1, none⟩) (Or.inr rfl) (.int .i64 (k1 : Int))))
  clear r2 R1 K1 E1 c0 c1 c2 z1 z2 hlt1
  generalize ((w1.setCell ⟨rb, 2, none⟩ (.int .i64 (o1 : Int))).setCell ⟨rb, 1, none⟩ (.int .i64 (k1 : Int))) = w4 at *
  have r2 := r2'
  have R1 := R1'
  have K1 := K1'
  have E1 := E1'
  clear r2' R1' K1' E1'
  have hg2B4 : g2 < w4.heap.size := r2.out.lt
  go_wp2_with fail
  refine (HX.out _ E1.out R1.out).mono ?_
  rintro e w5 ⟨cs, ev, rfl, hout, hat, hkp⟩; (try dsimp only)
  have r2' : Hid (Row w5 g2 29 zeroPA) := r2.out.kept hkp r2.out.lt (by omega)
  have K1' := Lib.hid (K1.out.thenK hkp K1.out.size)
  have E1' := Lib.hid (E1.out.on hkp)
  have hszK := Lib.hid K1.out.size
  obtain ⟨rfl, b, rfl, hb1, hb2, hb3⟩ := hout
  obtain ⟨n', o', hat⟩ := hat
  have R1' : Hid (RD w5 rb (.slice p l.length cp) n' o') := hat
  have HF3 := Lib.hid hb3
  have hb1' : Hid (w.heap.size ≤ b) := Nat.le_trans hszK.out hb1
  have hb2' := Lib.hid hb2
  clear r2 R1 K1 E1 hat hkp hb3 hb1 hb2 HX
  go_upto_region 6 with fail
  have r2 : Hid (Row (w5.alloc (.cells zeroPA 29)) g2 29 zeroPA) := r2'.out.alloc _
  have R1 : Hid (RD (w5.alloc (.cells zeroPA 29)) rb (.slice p l.length cp) n' o') := R1'.out.alloc _
  have K1 := Lib.hid (K1'.out.alloc K1'.out.size (.cells zeroPA 29))
  have F1 : Hid (FRow (w5.alloc (.cells zeroPA 29)) b a cc) := HF3.out.alloc _
  clear r2' R1' K1' E1' HF3
  generalize (w5.alloc (.cells zeroPA 29)) = w6 at *
  have HR4 := r2
  obtain ⟨j0, j1, j2, j3, j4, j5, j6, j7, f0, f1, f2, f3, f4, f5, f6, f7, z4⟩ := r2.out.eight
  have R5 := Lib.hid (r2.out.setRow_same zeroPA)
  have hbg2 : Hid (b ≠ g2) := by
    show b ≠ g2
    rintro rfl
    have e := F1.out.symm.trans HR4.out
    simp at e
  have F5 : Hid (FRow (w6.setRow g2 zeroPA) b a cc) := F1.out.setRow hbg2.out _
  have D5 : Hid (RD (w6.setRow g2 zeroPA) rb (.slice p l.length cp) n' o') := R1.out.setRow (by omega) _
  have K5 : Hid (Kept rb w.heap.size w (w6.setRow g2 zeroPA)) := K1.out.setRow (Or.inl hg2B.out) _
  clear r2 R1 K1
  go_wp2
  rw [set8 HR4.out]
  exact bodyPost_ret (pret rfl R5.out rfl rfl rfl) rfl ⟨zeroPA, _, rfl, ⟨rfl, _, rfl, hb1'.out, hb2'.out, F5.out⟩, ⟨n', o', D5.out⟩, K5.out⟩
set_option maxRecDepth 100000 in
set_option maxHeartbeats 8000000 in
theorem grp_open {w : World} {rb : Nat} {v : Value} {l : List UInt8} (h : Env w rb v l) (hl : l.length ≤ 1000000000) (k o : Nat) (hk : k < l.length) (hr : RD w rb v k o) (ho : o < 64) (t : PT) (n : Nat) (hnl : n ≤ l.length) (hc41 : isL l n 41 = false) (HX : Hid (∀ W, Env W rb v l → RD W rb v (k + 1) (o + 1) → Calls Try.prog 12 #[.pointer (some ⟨rb, 0, none⟩)] W fun e w' => EndR rb v (o + 1) W (.ok t n) e w')) :
    Calls Try.prog 23 #[.pointer (some ⟨rb, 0, none⟩)] w fun e w' => EndR rb v o w (.bad l.length 7) e w' := by
  have HF : Hid (∀ a c W, Calls Try.prog 11 #[.int .i64 ((a : Nat) : Int), .int .i64 ((c : Nat) : Int)] W fun e w' => e = .returned (.iface 47 (.pointer (some ⟨W.heap.size, 0, none⟩))) ∧ w' = W.alloc (.cells #[.int .i64 (a : Int), .iface 41 (.int .i64 (c : Int))] 49)) := fun a c W => efault_u a c W
  have H := Lib.hid h
  have HR := Lib.hid hr
  have hrl := h.rl
  obtain ⟨k1, hk1⟩ : ∃ x, x = k + 1 := ⟨_, rfl⟩
  obtain ⟨k2, hk2⟩ : ∃ x, x = k + 2 := ⟨_, rfl⟩
  have wk : IntKind.i64.wrap ((k : Int) + 1) = (k1 : Int) := by rw [IntKind.wrap_i64]; omega
  have wk2 : IntKind.i64.wrap ((k : Int) + 2) = (k2 : Int) := by rw [IntKind.wrap_i64]; omega
  have HK1 := Lib.hid hk1
  have HK2 := Lib.hid hk2
  obtain ⟨o1, ho1⟩ : ∃ x, x = o + 1 := ⟨_, rfl⟩
  have wo : IntKind.i64.wrap ((o : Int) + 1) = (o1 : Int) := by rw [IntKind.wrap_i64]; omega
  have HO1 := Lib.hid ho1
  have t64 : ((o : Int) == 64) = false := by rw [beq_eq_false_iff_ne]; omega
  clear ho1
  rw [← hk1, ← (show o1 = o + 1 from HO1.out)] at HX
  have hnl9 := hnl
  clear h hr
  go_enter Try.func23, Try.ntmps23
  go_upto_region 1 with fail
  have K1 : Hid (Kept rb w.heap.size w (w.alloc (.cells zeroPA 29))) := (Kept.refl _ _ _).alloc (Nat.le_refl _) _
  have r2 : Hid (Row (w.alloc (.cells zeroPA 29)) w.heap.size 29 zeroPA) := Row.new w _ _
  have R1 : Hid (RD (w.alloc (.cells zeroPA 29)) rb v k o) := HR.out.on ((Below.refl _ _).alloc (Nat.le_refl _) _)
  have E1 : Hid (Env (w.alloc (.cells zeroPA 29)) rb v l) := H.out.on K1.out
  generalize w.alloc (.cells zeroPA 29) = w1 at *
  obtain ⟨g2, hg2⟩ : ∃ g, g = w.heap.size := ⟨_, rfl⟩
  rw [← hg2]
  rw [← hg2] at r2
  have hg2l : rb < g2 := by rw [hg2]; exact hrl
  have hg2B : Hid (w.heap.size ≤ g2) := Nat.le_of_eq hg2.symm
  clear hg2 H HR hrl hk1 hk2
  obtain ⟨p, cp, rfl, hlc, hcm, hU⟩ := E1.out.bs
  clear hU
  have c0 : w1.cell? ⟨rb, 0, none⟩ = some (.slice p l.length cp) := R1.out.cell 0
  have c1 : w1.cell? ⟨rb, 1, none⟩ = some (.int .i64 ((k : Nat) : Int)) := R1.out.cell 1
  have c2 : w1.cell? ⟨rb, 2, none⟩ = some (.int .i64 ((o : Nat) : Int)) := R1.out.cell 2
  have z1 : w1.frozen? ⟨rb, 1, none⟩ = false := R1.out.froz 1
  have z2 : w1.frozen? ⟨rb, 2, none⟩ = false := R1.out.froz 2
  have hlt1 := R1.out.lt
  go_upto_region 5 with fail
  have r2' : Hid (Row ((w1.setCell ⟨rb, 2, none⟩ (.int .i64 (o1 : Int))).setCell ⟨rb, 1, none⟩ (.int .i64 (k1 : Int))) g2 29 zeroPA) := (r2.out.far (by simp; omega) _).far (by simp; omega) _
  have R1' : Hid (RD ((w1.setCell ⟨rb, 2, none⟩ (.int .i64 (o1 : Int))).setCell ⟨rb, 1, none⟩ (.int .i64 (k1 : Int))) rb (.slice p l.length cp) k1 o1) := (R1.out.set 2 _).set 1 _
  have K1' := Lib.hid ((K1.out.setCell (p := ⟨rb, 2, none⟩) (Or.inr rfl) (.int .i64 (o1 : Int))).setCell (p := ⟨rb, 1, none⟩) (Or.inr rfl) (.int .i64 (k1 : Int)))
  have E1' := Lib.hid (E1.out.on (((Kept.refl rb w1.heap.size w1).setCell (p := ⟨rb, 2, none⟩) (Or.inr rfl) (.int .i64 (o1 : Int))).setCell (p := ⟨rb, 1, none⟩) (Or.inr rfl) (.int .i64 (k1 : Int))))
  clear r2 R1 K1 E1 c0 c1 c2 z1 z2 hlt1
  generalize ((w1.setCell ⟨rb, 2, none⟩ (.int .i64 (o1 : Int))).setCell ⟨rb, 1, none⟩ (.int .i64 (k1 : Int))) = w4 at *
  have r2 := r2'
  have R1 := R1'
  have K1 := K1'
  have E1 := E1'
  clear r2' R1' K1' E1'
  have hg2B4 : g2 < w4.heap.size := r2.out.lt
  go_wp2_with fail
  refine (HX.out _ E1.out R1.out).mono ?_
  rintro e w5 ⟨cs, ev, rfl, hout, hat, hkp⟩; (try dsimp only)
  have r2' : Hid (Row w5 g2 29 zeroPA) := r2.out.kept hkp r2.out.lt (by omega)
  have K1' := Lib.hid (K1.out.thenK hkp K1.out.size)
  have E1' := Lib.hid (E1.out.on hkp)
  have hszK := Lib.hid K1.out.size
  obtain ⟨rfl, hp⟩ := hout
  obtain ⟨k', P, a', b', ad', n', cap', rfl⟩ := hp.inv
  have R1' : Hid (RD w5 rb (.slice p l.length cp) n o1) := hat
  obtain ⟨B4, hB4⟩ : ∃ x, x = w4.heap.size := ⟨_, rfl⟩
  rw [← hB4] at hp hg2B4 hszK
  clear hB4
  have HP := Lib.hid hp
  clear r2 R1 K1 E1 hat hkp HX hp
  go_upto_region 8 with fail
  have r2 : Hid (Row (w5.alloc (.cells (partA k' P a' b' (.slice ad' n' cap')) 29)) g2 29 zeroPA) := r2'.out.alloc _
  have R1 : Hid (RD (w5.alloc (.cells (partA k' P a' b' (.slice ad' n' cap')) 29)) rb (.slice p l.length cp) n o1) := R1'.out.alloc _
  have K1 := Lib.hid (K1'.out.alloc K1'.out.size (.cells (partA k' P a' b' (.slice ad' n' cap')) 29))
  have E1 := Lib.hid (E1'.out.on ((Kept.refl rb w5.heap.size w5).alloc (Nat.le_refl _) (.cells (partA k' P a' b' (.slice ad' n' cap')) 29)))
  have r4 : Hid (Row (w5.alloc (.cells (partA k' P a' b' (.slice ad' n' cap')) 29)) w5.heap.size 29 (partA k' P a' b' (.slice ad' n' cap'))) := Row.new w5 _ _
  have P1 : Hid (PVal (w5.alloc (.cells (partA k' P a' b' (.slice ad' n' cap')) 29)) B4 (partA k' P a' b' (.slice ad' n' cap')) t) := HP.out.blw ((Below.refl _ _).alloc (Nat.le_refl _) _)
  have hg24 : g2 < w5.heap.size := r2'.out.lt
  clear r2' R1' K1' E1' HP
  generalize (w5.alloc (.cells (partA k' P a' b' (.slice ad' n' cap')) 29)) = w6 at *
  obtain ⟨g4, hg4⟩ : ∃ x, x = w5.heap.size := ⟨_, rfl⟩
  rw [← hg4]
  rw [← hg4] at r4 hg24
  clear hg4
  have IS := Lib.hid (fun n' => eis_u (w := w6.drewN n') (E1.out.on (Kept.of (below_drewN (Below.refl _ _) _))).BS hl n (by omega) 41)
  rw [hc41, show bv 41 = .int .u8 41 from rfl] at IS
  have c0 : w6.cell? ⟨rb, 0, none⟩ = some (.slice p l.length cp) := R1.out.cell 0
  have c1 : w6.cell? ⟨rb, 1, none⟩ = some (.int .i64 ((n : Nat) : Int)) := R1.out.cell 1
  have c2 : w6.cell? ⟨rb, 2, none⟩ = some (.int .i64 ((o1 : Nat) : Int)) := R1.out.cell 2
  have z1 : w6.frozen? ⟨rb, 1, none⟩ = false := R1.out.froz 1
  have z2 : w6.frozen? ⟨rb, 2, none⟩ = false := R1.out.froz 2
  have hlt1 := R1.out.lt
  go_quiet (first | (go_at_call 16; refine Calls.quiet_of_same ((IS.out _).mono fun _ _ ⟨ha, hb⟩ => ⟨ha, hb.symm⟩)))
  have KQ := Lib.hid ((Kept.refl rb w6.heap.size w6).then (below_drewN (Below.refl w6.heap.size w6) nq) (Nat.le_refl _))
  have r2' : Hid (Row (w6.drewN nq) g2 29 zeroPA) := r2.out.kept KQ.out r2.out.lt (by omega)
  have r4' : Hid (Row (w6.drewN nq) g4 29 (partA k' P a' b' (.slice ad' n' cap'))) := r4.out.on (below_drewN (Below.refl _ _) _)
  have P1' := Lib.hid (P1.out.on KQ.out (by omega))
  have R1' : Hid (RD (w6.drewN nq) rb (.slice p l.length cp) n o1) := R1.out.on (below_drewN (Below.refl _ _) _)
  have K1' := Lib.hid (K1.out.thenK KQ.out K1.out.size)
  have E1' := Lib.hid (E1.out.on KQ.out)
  clear r2 r4 P1 R1 K1 E1 c0 c1 c2 z1 z2 hlt1 KQ
  generalize w6.drewN nq = w7 at *
  have r2 := r2'
  have r4 := r4'
  have P1 := P1'
  have R1 := R1'
  have K1 := K1'
  have E1 := E1'
  clear r4' P1' r2' R1' K1' E1'
  have c0 : w7.cell? ⟨rb, 0, none⟩ = some (.slice p l.length cp) := R1.out.cell 0
  have c1 : w7.cell? ⟨rb, 1, none⟩ = some (.int .i64 ((n : Nat) : Int)) := R1.out.cell 1
  have c2 : w7.cell? ⟨rb, 2, none⟩ = some (.int .i64 ((o1 : Nat) : Int)) := R1.out.cell 2
  have z1 : w7.frozen? ⟨rb, 1, none⟩ = false := R1.out.froz 1
  have z2 : w7.frozen? ⟨rb, 2, none⟩ = false := R1.out.froz 2
  have hlt1 := R1.out.lt
  clear r4 P1
  go_wp2_with fail
  refine (HF.out l.length 7 _).mono ?_; rintro e w8 ⟨rfl, hw8⟩; (try dsimp only)
  have R4 : Row w8 g2 29 zeroPA := by rw [hw8]; exact r2.out.alloc _
  have F4 : FRow w8 w7.heap.size l.length 7 := by rw [hw8]; exact Row.new w7 _ _
  have D4 : RD w8 rb (.slice p l.length cp) n o1 := by rw [hw8]; exact R1.out.alloc _
  have K4 : Kept rb w.heap.size w w8 := by rw [hw8]; exact K1.out.alloc K1.out.size _
  have HR4 := Lib.hid R4
  obtain ⟨j0, j1, j2, j3, j4, j5, j6, j7, f0, f1, f2, f3, f4, f5, f6, f7, z4⟩ := R4.eight
  have R5 := Lib.hid (R4.setRow_same zeroPA)
  have F5 : Hid (FRow (w8.setRow g2 zeroPA) w7.heap.size l.length 7) := F4.setRow (Nat.ne_of_gt r2.out.lt) _
  have D5 : Hid (RD (w8.setRow g2 zeroPA) rb (.slice p l.length cp) n o1) := D4.setRow (by omega) _
  have K5 : Hid (Kept rb w.heap.size w (w8.setRow g2 zeroPA)) := K4.setRow (Or.inl hg2B.out) _
  have hne : Hid (w7.heap.size ≠ rb) := Nat.ne_of_gt R1.out.lt
  have hwb : Hid (w.heap.size ≤ w7.heap.size) := K1.out.size
  clear R4 F4 D4 K4 hw8
  go_wp2
  rw [set8 HR4.out]
  exact bodyPost_ret (pret rfl R5.out rfl rfl rfl) rfl ⟨zeroPA, _, rfl, ⟨rfl, _, rfl, hwb.out, hne.out, F5.out⟩, ⟨n, o1, D5.out⟩, K5.out⟩
set_option maxRecDepth 100000 in
set_option maxHeartbeats 8000000 in
theorem grp_ok {w : World} {rb : Nat} {v : Value} {l : List UInt8} (h : Env w rb v l) (hl : l.length ≤ 1000000000) (k o : Nat) (hk : k < l.length) (hr : RD w rb v k o) (ho : o < 64) (t : PT) (n : Nat) (hnl : n ≤ l.length) (hc41 : isL l n 41 = true) (HX : Hid (∀ W, Env W rb v l → RD W rb v (k + 1) (o + 1) → Calls Try.prog 12 #[.pointer (some ⟨rb, 0, none⟩)] W fun e w' => EndR rb v (o + 1) W (.ok t n) e w')) :
    Calls Try.prog 23 #[.pointer (some ⟨rb, 0, none⟩)] w fun e w' => EndR rb v o w (.ok t (n + 1)) e w' := by
  have H := Lib.hid h
  have HR := Lib.hid hr
  have hrl := h.rl
  obtain ⟨k1, hk1⟩ : ∃ x, x = k + 1 := ⟨_, rfl⟩
  obtain ⟨k2, hk2⟩ : ∃ x, x = k + 2 := ⟨_, rfl⟩
  have wk : IntKind.i64.wrap ((k : Int) + 1) = (k1 : Int) := by rw [IntKind.wrap_i64]; omega
  have wk2 : IntKind.i64.wrap ((k : Int) + 2) = (k2 : Int) := by rw [IntKind.wrap_i64]; omega
  have HK1 := Lib.hid hk1
  have HK2 := Lib.hid hk2
  obtain ⟨o1, ho1⟩ : ∃ x, x = o + 1 := ⟨_, rfl⟩
  have wo : IntKind.i64.wrap ((o : Int) + 1) = (o1 : Int) := by rw [IntKind.wrap_i64]; omega
  have HO1 := Lib.hid ho1
  have t64 : ((o : Int) == 64) = false := by rw [beq_eq_false_iff_ne]; omega
  clear ho1
  rw [← hk1, ← (show o1 = o + 1 from HO1.out)] at HX
  have hnl9 := hnl
  clear h hr
  go_enter Try.func23, Try.ntmps23
  go_upto_region 1 with fail
  have K1 : Hid (Kept rb w.heap.size w (w.alloc (.cells zeroPA 29))) := (Kept.refl _ _ _).alloc (Nat.le_refl _) _
  have r2 : Hid (Row (w.alloc (.cells zeroPA 29)) w.heap.size 29 zeroPA) := Row.new w _ _
  have R1 : Hid (RD (w.alloc (.cells zeroPA 29)) rb v k o) := HR.out.on ((Below.refl _ _).alloc (Nat.le_refl _) _)
  have E1 : Hid (Env (w.alloc (.cells zeroPA 29)) rb v l) := H.out.on K1.out
  generalize w.alloc (.cells zeroPA 29) = w1 at *
  obtain ⟨g2, hg2⟩ : ∃ g, g = w.heap.size := ⟨_, rfl⟩
  rw [← hg2]
  rw [← hg2] at r2
  have hg2l : rb < g2 := by rw [hg2]; exact hrl
  have hg2B : Hid (w.heap.size ≤ g2) := Nat.le_of_eq hg2.symm
  clear hg2 H HR hrl hk1 hk2
  obtain ⟨p, cp, rfl, hlc, hcm, hU⟩ := E1.out.bs
  clear hU
  have c0 : w1.cell? ⟨rb, 0, none⟩ = some (.slice p l.length cp) := R1.out.cell 0
  have c1 : w1.cell? ⟨rb, 1, none⟩ = some (.int .i64 ((k : Nat) : Int)) := R1.out.cell 1
  have c2 : w1.cell? ⟨rb, 2, none⟩ = some (.int .i64 ((o : Nat) : Int)) := R1.out.cell 2
  have z1 : w1.frozen? ⟨rb, 1, none⟩ = false := R1.out.froz 1
  have z2 : w1.frozen? ⟨rb, 2, none⟩ = false := R1.out.froz 2
  have hlt1 := R1.out.lt
  go_upto_region 5 with fail
  have r2' : Hid (Row ((w1.setCell ⟨rb, 2, none⟩ (.int .i64 (o1 : Int))).setCell ⟨rb, 1, none⟩ (.int .i64 (k1 : Int))) g2 29 zeroPA) := (r2.out.far (by simp; omega) _).far (by simp; omega) _
  have R1' : Hid (RD ((w1.setCell ⟨rb, 2, none⟩ (.int .i64 (o1 : Int))).setCell ⟨rb, 1, none⟩ (.int .i64 (k1 : Int))) rb (.slice p l.length cp) k1 o1) := (R1.out.set 2 _).set 1 _
  have K1' := Lib.hid ((K1.out.setCell (p := ⟨rb, 2, none⟩) (Or.inr rfl) (.int .i64 (o1 : Int))).setCell (p := ⟨rb, 1, none⟩) (Or.inr rfl) (.int .i64 (k1 : Int)))
  have E1' := Lib.hid (E1.out.on (((Kept.refl rb w1.heap.size w1).setCell (p := ⟨rb, 2, none⟩) (Or.inr rfl) (.int .i64 (o1 : Int))).setCell (p := ⟨rb, 1, none⟩) (Or.inr rfl) (.int .i64 (k1 : Int))))
  clear r2 R1 K1 E1 c0 c1 c2 z1 z2 hlt1
  generalize ((w1.setCell ⟨rb, 2, none⟩ (.int .i64 (o1 : Int))).setCell ⟨rb, 1, none⟩ (.int .i64 (k1 : Int))) = w4 at *
  have r2 := r2'
  have R1 := R1'
  have K1 := K1'
  have E1 := E1'
  clear r2' R1' K1' E1'
  have hg2B4 : g2 < w4.heap.size := r2.out.lt
  go_wp2_with fail
  refine (HX.out _ E1.out R1.out).mono ?_
  rintro e w5 ⟨cs, ev, rfl, hout, hat, hkp⟩; (try dsimp only)
  have r2' : Hid (Row w5 g2 29 zeroPA) := r2.out.kept hkp r2.out.lt (by omega)
  have K1' := Lib.hid (K1.out.thenK hkp K1.out.size)
  have E1' := Lib.hid (E1.out.on hkp)
  have hszK := Lib.hid K1.out.size
  obtain ⟨rfl, hp⟩ := hout
  obtain ⟨k', P, a', b', ad', n', cap', rfl⟩ := hp.inv
  have R1' : Hid (RD w5 rb (.slice p l.length cp) n o1) := hat
  obtain ⟨B4, hB4⟩ : ∃ x, x = w4.heap.size := ⟨_, rfl⟩
  rw [← hB4] at hp hg2B4 hszK
  clear hB4
  have HP := Lib.hid hp
  clear r2 R1 K1 E1 hat hkp HX hp
  go_upto_region 8 with fail
  have r2 : Hid (Row (w5.alloc (.cells (partA k' P a' b' (.slice ad' n' cap')) 29)) g2 29 zeroPA) := r2'.out.alloc _
  have R1 : Hid (RD (w5.alloc (.cells (partA k' P a' b' (.slice ad' n' cap')) 29)) rb (.slice p l.length cp) n o1) := R1'.out.alloc _
  have K1 := Lib.hid (K1'.out.alloc K1'.out.size (.cells (partA k' P a' b' (.slice ad' n' cap')) 29))
  have E1 := Lib.hid (E1'.out.on ((Kept.refl rb w5.heap.size w5).alloc (Nat.le_refl _) (.cells (partA k' P a' b' (.slice ad' n' cap')) 29)))
  have r4 : Hid (Row (w5.alloc (.cells (partA k' P a' b' (.slice ad' n' cap')) 29)) w5.heap.size 29 (partA k' P a' b' (.slice ad' n' cap'))) := Row.new w5 _ _
  have P1 : Hid (PVal (w5.alloc (.cells (partA k' P a' b' (.slice ad' n' cap')) 29)) B4 (partA k' P a' b' (.slice ad' n' cap')) t) := HP.out.blw ((Below.refl _ _).alloc (Nat.le_refl _) _)
  have hg24 : g2 < w5.heap.size := r2'.out.lt
  clear r2' R1' K1' E1' HP
  generalize (w5.alloc (.cells (partA k' P a' b' (.slice ad' n' cap')) 29)) = w6 at *
  obtain ⟨g4, hg4⟩ : ∃ x, x = w5.heap.size := ⟨_, rfl⟩
  rw [← hg4]
  rw [← hg4] at r4 hg24
  clear hg4
  have IS := Lib.hid (fun n' => eis_u (w := w6.drewN n') (E1.out.on (Kept.of (below_drewN (Below.refl _ _) _))).BS hl n (by omega) 41)
  rw [hc41, show bv 41 = .int .u8 41 from rfl] at IS
  have c0 : w6.cell? ⟨rb, 0, none⟩ = some (.slice p l.length cp) := R1.out.cell 0
  have c1 : w6.cell? ⟨rb, 1, none⟩ = some (.int .i64 ((n : Nat) : Int)) := R1.out.cell 1
  have c2 : w6.cell? ⟨rb, 2, none⟩ = some (.int .i64 ((o1 : Nat) : Int)) := R1.out.cell 2
  have z1 : w6.frozen? ⟨rb, 1, none⟩ = false := R1.out.froz 1
  have z2 : w6.frozen? ⟨rb, 2, none⟩ = false := R1.out.froz 2
  have hlt1 := R1.out.lt
  go_quiet (first | (go_at_call 16; refine Calls.quiet_of_same ((IS.out _).mono fun _ _ ⟨ha, hb⟩ => ⟨ha, hb.symm⟩)))
  have KQ := Lib.hid ((Kept.refl rb w6.heap.size w6).then (below_drewN (Below.refl w6.heap.size w6) nq) (Nat.le_refl _))
  have r2' : Hid (Row (w6.drewN nq) g2 29 zeroPA) := r2.out.kept KQ.out r2.out.lt (by omega)
  have r4' : Hid (Row (w6.drewN nq) g4 29 (partA k' P a' b' (.slice ad' n' cap'))) := r4.out.on (below_drewN (Below.refl _ _) _)
  have P1' := Lib.hid (P1.out.on KQ.out (by omega))
  have R1' : Hid (RD (w6.drewN nq) rb (.slice p l.length cp) n o1) := R1.out.on (below_drewN (Below.refl _ _) _)
  have K1' := Lib.hid (K1.out.thenK KQ.out K1.out.size)
  have E1' := Lib.hid (E1.out.on KQ.out)
  clear r2 r4 P1 R1 K1 E1 c0 c1 c2 z1 z2 hlt1 KQ
  generalize w6.drewN nq = w7 at *
  have r2 := r2'
  have r4 := r4'
  have P1 := P1'
  have R1 := R1'
  have K1 := K1'
  have E1 := E1'
  clear r4' P1' r2' R1' K1' E1'
  have c0 : w7.cell? ⟨rb, 0, none⟩ = some (.slice p l.length cp) := R1.out.cell 0
  have c1 : w7.cell? ⟨rb, 1, none⟩ = some (.int .i64 ((n : Nat) : Int)) := R1.out.cell 1
  have c2 : w7.cell? ⟨rb, 2, none⟩ = some (.int .i64 ((o1 : Nat) : Int)) := R1.out.cell 2
  have z1 : w7.frozen? ⟨rb, 1, none⟩ = false := R1.out.froz 1
  have z2 : w7.frozen? ⟨rb, 2, none⟩ = false := R1.out.froz 2
  have hlt1 := R1.out.lt
  obtain ⟨nx, hnx⟩ : ∃ x, x = n + 1 := ⟨_, rfl⟩
  have wn : IntKind.i64.wrap ((n : Int) + 1) = (nx : Int) := by rw [IntKind.wrap_i64]; omega
  have wo2 : IntKind.i64.wrap ((o1 : Int) - 1) = (o : Int) := by have := HO1.out; rw [IntKind.wrap_i64]; omega
  have HNX := Lib.hid hnx
  clear hnx
  go_upto_region 12 with fail
  have r2' : Hid (Row ((w7.setCell ⟨rb, 2, none⟩ (.int .i64 (o : Int))).setCell ⟨rb, 1, none⟩ (.int .i64 (nx : Int))) g2 29 zeroPA) := (r2.out.far (by simp; omega) _).far (by simp; omega) _
  have r4' : Hid (Row ((w7.setCell ⟨rb, 2, none⟩ (.int .i64 (o : Int))).setCell ⟨rb, 1, none⟩ (.int .i64 (nx : Int))) g4 29 (partA k' P a' b' (.slice ad' n' cap'))) := (r4.out.far (by simp; omega) _).far (by simp; omega) _
  have R1' : Hid (RD ((w7.setCell ⟨rb, 2, none⟩ (.int .i64 (o : Int))).setCell ⟨rb, 1, none⟩ (.int .i64 (nx : Int))) rb (.slice p l.length cp) nx o) := (R1.out.set 2 _).set 1 _
  have K1' := Lib.hid ((K1.out.setCell (p := ⟨rb, 2, none⟩) (Or.inr rfl) (.int .i64 (o : Int))).setCell (p := ⟨rb, 1, none⟩) (Or.inr rfl) (.int .i64 (nx : Int)))
  have P1' := Lib.hid (P1.out.on (((Kept.refl rb w7.heap.size w7).setCell (p := ⟨rb, 2, none⟩) (Or.inr rfl) (.int .i64 (o : Int))).setCell (p := ⟨rb, 1, none⟩) (Or.inr rfl) (.int .i64 (nx : Int))) (by omega))
  clear r2 r4 P1 R1 K1 E1 c0 c1 c2 z1 z2 hlt1
  generalize ((w7.setCell ⟨rb, 2, none⟩ (.int .i64 (o : Int))).setCell ⟨rb, 1, none⟩ (.int .i64 (nx : Int))) = w8 at *
  have r2 := r2'
  have r4 := r4'
  have R1 := R1'
  have K1 := K1'
  have P1 := P1'
  clear r2' r4' R1' K1' P1'
  obtain ⟨m0, m1, m2, m3, m4, m5, m6, m7, e0, e1, e2, e3, e4, e5, e6, e7, z9⟩ := r4.out.eight
  have E1 := K1
  have HR4 := r2
  obtain ⟨j0, j1, j2, j3, j4, j5, j6, j7, f0, f1, f2, f3, f4, f5, f6, f7, z4⟩ := r2.out.eight
  have R5 := Lib.hid (r2.out.setRow_same (partA k' P a' b' (.slice ad' n' cap')))
  have P5 : Hid (PVal (w8.setRow g2 (partA k' P a' b' (.slice ad' n' cap'))) w.heap.size (partA k' P a' b' (.slice ad' n' cap')) (t)) := (P1.out.setRow hg2B4 _).le hszK.out
  have D5 : Hid (RD (w8.setRow g2 (partA k' P a' b' (.slice ad' n' cap'))) rb (.slice p l.length cp) (nx) o) := R1.out.setRow (by omega) _
  have K5 : Hid (Kept rb w.heap.size w (w8.setRow g2 (partA k' P a' b' (.slice ad' n' cap')))) := K1.out.setRow (Or.inl hg2B.out) _
  clear r2 R1 K1 E1
  go_wp2
  rw [set8 HR4.out]
  exact bodyPost_ret (pret rfl R5.out rfl rfl rfl) rfl ⟨(partA k' P a' b' (.slice ad' n' cap')), _, rfl, ⟨rfl, P5.out⟩, by have h9 := D5.out; rw [HNX.out] at h9; exact h9, K5.out⟩
end Go.Proofs.Ytfmekmbdienbjaa
