/- Layer 4: the contract of escape. -/
import Derived.Test.YtfmekmbdienbjaaEreF
namespace Go.Proofs.Ytfmekmbdienbjaa
set_option linter.unusedSimpArgs false
set_option linter.unusedVariables false
set_option linter.unnecessarySimpa false
open Go.RowKit

set_option maxRecDepth 100000 in
set_option maxHeartbeats 8000000 in
theorem esc_end {w : World} {rb : Nat} {v : Value} {l : List UInt8} (h : Env w rb v l) (hl : l.length ≤ 1000000000) (k o : Nat) (hk : k < l.length) (hr : RD w rb v k o) (he : k + 1 = l.length) :
    Calls Try.prog 25 #[.pointer (some ⟨rb, 0, none⟩)] w fun e w' => EndR rb v o w (.bad l.length 7) e w' := by
  have HF : Hid (∀ a c W, Calls Try.prog 11 #[.int .i64 ((a : Nat) : Int), .int .i64 ((c : Nat) : Int)] W fun e w' => e = .returned (.iface 47 (.pointer (some ⟨W.heap.size, 0, none⟩))) ∧ w' = W.alloc (.cells #[.int .i64 (a : Int), .iface 41 (.int .i64 (c : Int))] 49)) := fun a c W => efault_u a c W
  have H := Lib.hid h
  have HR := Lib.hid hr
  have hrl := h.rl
  obtain ⟨k1, hk1⟩ : ∃ x, x = k + 1 := ⟨_, rfl⟩
  obtain ⟨k2, hk2⟩ : ∃ x, x = k + 2 := ⟨_, rfl⟩
  have wk : IntKind.i64.wrap ((k : Int) + 1) = (k1 : Int) := by rw [IntKind.wrap_i64]; omega
  have wk2 : IntKind.i64.wrap ((k : Int) + 2) = (k2 : Int) := by rw [IntKind.wrap_i64]; omega
  have HK1 := Lib.hid hk1
  have HK2 := Lib.hid hk2
  clear h hr
  go_enter Try.func25, Try.ntmps25
  go_upto_region 1 with fail
  have K1 : Hid (Kept rb w.heap.size w (w.alloc (.cells zeroPA 29))) := (Kept.refl _ _ _).alloc (Nat.le_refl _) _
  have r2 : Hid (Row (w.alloc (.cells zeroPA 29)) w.heap.size 29 zeroPA) := Row.new w _ _
  have R1 : Hid (RD (w.alloc (.cells zeroPA 29)) rb v k o) := HR.out.on ((Below.refl _ _).alloc (Nat.le_refl _) _)
  have E1 : Hid (Env (w.alloc (.cells zeroPA 29)) rb v l) := H.out.on K1.out
  generalize w.alloc (.cells zeroPA 29) = w1 at *
  obtain ⟨g2, hg2⟩ : ∃ g, g = w.heap.size := ⟨_, rfl⟩
  rw [← hg2]
  rw [← hg2] at r2
  have hg2l : rb < g2 := by rw [hg2]; exact hrl
  have hg2B : Hid (w.heap.size ≤ g2) := Nat.le_of_eq hg2.symm
  clear hg2 H HR hrl hk1 hk2
  obtain ⟨p, cp, rfl, hlc, hcm, hU⟩ := E1.out.bs
  clear hU
  have c0 : w1.cell? ⟨rb, 0, none⟩ = some (.slice p l.length cp) := R1.out.cell 0
  have c1 : w1.cell? ⟨rb, 1, none⟩ = some (.int .i64 ((k : Nat) : Int)) := R1.out.cell 1
  have c2 : w1.cell? ⟨rb, 2, none⟩ = some (.int .i64 ((o : Nat) : Int)) := R1.out.cell 2
  have z1 : w1.frozen? ⟨rb, 1, none⟩ = false := R1.out.froz 1
  have z2 : w1.frozen? ⟨rb, 2, none⟩ = false := R1.out.froz 2
  have hlt1 := R1.out.lt
  have t0 : ((k1 : Int) == (l.length : Int)) = true := by rw [beq_iff_eq]; have := HK1.out; omega
  clear he
  go_quiet (fail)
  have KQ := Lib.hid ((Kept.refl rb w1.heap.size w1).then (below_drewN (Below.refl w1.heap.size w1) nq) (Nat.le_refl _))
  have r2' : Hid (Row (w1.drewN nq) g2 29 zeroPA) := r2.out.kept KQ.out r2.out.lt (by omega)
  have R1' : Hid (RD (w1.drewN nq) rb (.slice p l.length cp) k o) := R1.out.on (below_drewN (Below.refl _ _) _)
  have K1' := Lib.hid (K1.out.thenK KQ.out K1.out.size)
  have E1' := Lib.hid (E1.out.on KQ.out)
  clear r2 R1 K1 E1 c0 c1 c2 z1 z2 hlt1 KQ
  generalize w1.drewN nq = w2 at *
  have r2 := r2'
  have R1 := R1'
  have K1 := K1'
  have E1 := E1'
  clear r2' R1' K1' E1'
  have c0 : w2.cell? ⟨rb, 0, none⟩ = some (.slice p l.length cp) := R1.out.cell 0
  have c1 : w2.cell? ⟨rb, 1, none⟩ = some (.int .i64 ((k : Nat) : Int)) := R1.out.cell 1
  have c2 : w2.cell? ⟨rb, 2, none⟩ = some (.int .i64 ((o : Nat) : Int)) := R1.out.cell 2
  have z1 : w2.frozen? ⟨rb, 1, none⟩ = false := R1.out.froz 1
  have z2 : w2.frozen? ⟨rb, 2, none⟩ = false := R1.out.froz 2
  have hlt1 := R1.out.lt
  go_wp2_with fail
  refine (HF.out l.length 7 _).mono ?_; rintro e w3 ⟨rfl, hw3⟩; (try dsimp only)
  have R4 : Row w3 g2 29 zeroPA := by rw [hw3]; exact r2.out.alloc _
  have F4 : FRow w3 w2.heap.size l.length 7 := by rw [hw3]; exact Row.new w2 _ _
  have D4 : RD w3 rb (.slice p l.length cp) k o := by rw [hw3]; exact R1.out.alloc _
  have K4 : Kept rb w.heap.size w w3 := by rw [hw3]; exact K1.out.alloc K1.out.size _
  have HR4 := Lib.hid R4
  obtain ⟨j0, j1, j2, j3, j4, j5, j6, j7, f0, f1, f2, f3, f4, f5, f6, f7, z4⟩ := R4.eight
  have R5 := Lib.hid (R4.setRow_same zeroPA)
  have F5 : Hid (FRow (w3.setRow g2 zeroPA) w2.heap.size l.length 7) := F4.setRow (Nat.ne_of_gt r2.out.lt) _
  have D5 : Hid (RD (w3.setRow g2 zeroPA) rb (.slice p l.length cp) k o) := D4.setRow (by omega) _
  have K5 : Hid (Kept rb w.heap.size w (w3.setRow g2 zeroPA)) := K4.setRow (Or.inl hg2B.out) _
  have hne : Hid (w2.heap.size ≠ rb) := Nat.ne_of_gt R1.out.lt
  have hwb : Hid (w.heap.size ≤ w2.heap.size) := K1.out.size
  clear R4 F4 D4 K4 hw3
  go_wp2
  rw [set8 HR4.out]
  exact bodyPost_ret (pret rfl R5.out rfl rfl rfl) rfl ⟨zeroPA, _, rfl, ⟨rfl, _, rfl, hwb.out, hne.out, F5.out⟩, ⟨k, o, D5.out⟩, K5.out⟩
set_option maxRecDepth 100000 in
set_option maxHeartbeats 8000000 in
theorem esc_ok {w : World} {rb : Nat} {v : Value} {l : List UInt8} (h : Env w rb v l) (hl : l.length ≤ 1000000000) (k o : Nat) (hk : k < l.length) (hr : RD w rb v k o) (he : k + 1 < l.length) :
    Calls Try.prog 25 #[.pointer (some ⟨rb, 0, none⟩)] w fun e w' => EndR rb v o w (.ok (setT (rngP (escU (l.getD (k + 1) 0)).toNat (escU (l.getD (k + 1) 0)).toNat)) (k + 2)) e w' := by
  have H := Lib.hid h
  have HR := Lib.hid hr
  have hrl := h.rl
  obtain ⟨k1, hk1⟩ : ∃ x, x = k + 1 := ⟨_, rfl⟩
  obtain ⟨k2, hk2⟩ : ∃ x, x = k + 2 := ⟨_, rfl⟩
  have wk : IntKind.i64.wrap ((k : Int) + 1) = (k1 : Int) := by rw [IntKind.wrap_i64]; omega
  have wk2 : IntKind.i64.wrap ((k : Int) + 2) = (k2 : Int) := by rw [IntKind.wrap_i64]; omega
  have HK1 := Lib.hid hk1
  have HK2 := Lib.hid hk2
  clear h hr
  go_enter Try.func25, Try.ntmps25
  go_upto_region 1 with fail
  have K1 : Hid (Kept rb w.heap.size w (w.alloc (.cells zeroPA 29))) := (Kept.refl _ _ _).alloc (Nat.le_refl _) _
  have r2 : Hid (Row (w.alloc (.cells zeroPA 29)) w.heap.size 29 zeroPA) := Row.new w _ _
  have R1 : Hid (RD (w.alloc (.cells zeroPA 29)) rb v k o) := HR.out.on ((Below.refl _ _).alloc (Nat.le_refl _) _)
  have E1 : Hid (Env (w.alloc (.cells zeroPA 29)) rb v l) := H.out.on K1.out
  generalize w.alloc (.cells zeroPA 29) = w1 at *
  obtain ⟨g2, hg2⟩ : ∃ g, g = w.heap.size := ⟨_, rfl⟩
  rw [← hg2]
  rw [← hg2] at r2
  have hg2l : rb < g2 := by rw [hg2]; exact hrl
  have hg2B : Hid (w.heap.size ≤ g2) := Nat.le_of_eq hg2.symm
  clear hg2 H HR hrl hk1 hk2
  obtain ⟨p, cp, rfl, hlc, hcm, hU⟩ := E1.out.bs
  clear hU
  have c0 : w1.cell? ⟨rb, 0, none⟩ = some (.slice p l.length cp) := R1.out.cell 0
  have c1 : w1.cell? ⟨rb, 1, none⟩ = some (.int .i64 ((k : Nat) : Int)) := R1.out.cell 1
  have c2 : w1.cell? ⟨rb, 2, none⟩ = some (.int .i64 ((o : Nat) : Int)) := R1.out.cell 2
  have z1 : w1.frozen? ⟨rb, 1, none⟩ = false := R1.out.froz 1
  have z2 : w1.frozen? ⟨rb, 2, none⟩ = false := R1.out.froz 2
  have hlt1 := R1.out.lt
  have t0 : ((k1 : Int) == (l.length : Int)) = false := by rw [beq_eq_false_iff_ne]; have := HK1.out; omega
  have he1 : k1 < l.length := by have := HK1.out; omega
  clear he
  go_quiet (fail)
  have KQ := Lib.hid ((Kept.refl rb w1.heap.size w1).then (below_drewN (Below.refl w1.heap.size w1) nq) (Nat.le_refl _))
  have r2' : Hid (Row (w1.drewN nq) g2 29 zeroPA) := r2.out.kept KQ.out r2.out.lt (by omega)
  have R1' : Hid (RD (w1.drewN nq) rb (.slice p l.length cp) k o) := R1.out.on (below_drewN (Below.refl _ _) _)
  have K1' := Lib.hid (K1.out.thenK KQ.out K1.out.size)
  have E1' := Lib.hid (E1.out.on KQ.out)
  clear r2 R1 K1 E1 c0 c1 c2 z1 z2 hlt1 KQ
  generalize w1.drewN nq = w2 at *
  have r2 := r2'
  have R1 := R1'
  have K1 := K1'
  have E1 := E1'
  clear r2' R1' K1' E1'
  have c0 : w2.cell? ⟨rb, 0, none⟩ = some (.slice p l.length cp) := R1.out.cell 0
  have c1 : w2.cell? ⟨rb, 1, none⟩ = some (.int .i64 ((k : Nat) : Int)) := R1.out.cell 1
  have c2 : w2.cell? ⟨rb, 2, none⟩ = some (.int .i64 ((o : Nat) : Int)) := R1.out.cell 2
  have z1 : w2.frozen? ⟨rb, 1, none⟩ = false := R1.out.froz 1
  have z2 : w2.frozen? ⟨rb, 2, none⟩ = false := R1.out.froz 2
  have hlt1 := R1.out.lt
  go_wp2
  obtain ⟨bk, off, rfl, hbb, hcs⟩ := E1.out.at (by rintro rfl; simp at hk)
  have k0 : w2.cell? ⟨bk, off + k1, none⟩ = some (bv (l.getD k1 0)) := hcs k1 (by omega)
  have hKa : (0 : Int) ≤ (k1 : Int) := by omega
  have hKb : (k1 : Int) < (l.length : Int) := by omega
  have hbw : bk < w2.heap.size := Nat.lt_trans hbb R1.out.lt
  clear hcs
  have HESC := Lib.hid (escape_u (l.getD k1 0))
  have HRG := Lib.hid (range_u (escU (l.getD k1 0)) (escU (l.getD k1 0)))
  have HST := Lib.hid (stp_u (rngP (escU (l.getD k1 0)).toNat (escU (l.getD k1 0)).toNat))
  have HQ : Hid (setT (rngP (escU (l.getD (k + 1) 0)).toNat (escU (l.getD (k + 1) 0)).toNat) = setT (rngP (escU (l.getD k1 0)).toNat (escU (l.getD k1 0)).toNat)) := by rw [HK1.out]; rfl
  generalize bv (escU (l.getD k1 0)) = ec at *
  generalize rngP (escU (l.getD k1 0)).toNat (escU (l.getD k1 0)).toNat = P at *
  generalize bv (l.getD k1 0) = bc at *
  go_quiet (first | (go_at_call 31; refine Calls.quiet_of_same ((HESC.out _).mono fun _ _ ⟨ha, hb⟩ => ⟨ha, hb.symm⟩)))
  have KQ := Lib.hid ((Kept.refl rb w2.heap.size w2).then (below_drewN (Below.refl w2.heap.size w2) nq) (Nat.le_refl _))
  have r2' : Hid (Row (w2.drewN nq) g2 29 zeroPA) := r2.out.kept KQ.out r2.out.lt (by omega)
  have R1' : Hid (RD (w2.drewN nq) rb (.slice (some ⟨bk, off, none⟩) l.length cp) k o) := R1.out.on (below_drewN (Below.refl _ _) _)
  have K1' := Lib.hid (K1.out.thenK KQ.out K1.out.size)
  have E1' := Lib.hid (E1.out.on KQ.out)
  clear r2 R1 K1 E1 c0 c1 c2 z1 z2 hlt1 KQ
  generalize w2.drewN nq = w3 at *
  have r2 := r2'
  have R1 := R1'
  have K1 := K1'
  have E1 := E1'
  clear r2' R1' K1' E1'
  have c0 : w3.cell? ⟨rb, 0, none⟩ = some (.slice (some ⟨bk, off, none⟩) l.length cp) := R1.out.cell 0
  have c1 : w3.cell? ⟨rb, 1, none⟩ = some (.int .i64 ((k : Nat) : Int)) := R1.out.cell 1
  have c2 : w3.cell? ⟨rb, 2, none⟩ = some (.int .i64 ((o : Nat) : Int)) := R1.out.cell 2
  have z1 : w3.frozen? ⟨rb, 1, none⟩ = false := R1.out.froz 1
  have z2 : w3.frozen? ⟨rb, 2, none⟩ = false := R1.out.froz 2
  have hlt1 := R1.out.lt
  clear k0 hbw hKa hKb
  go_upto_region 5 with fail
  have r2' : Hid (Row (w3.setCell ⟨rb, 1, none⟩ (.int .i64 (k2 : Int))) g2 29 zeroPA) := r2.out.far (by simp; omega) _
  have R1' : Hid (RD (w3.setCell ⟨rb, 1, none⟩ (.int .i64 (k2 : Int))) rb (.slice (some ⟨bk, off, none⟩) l.length cp) k2 o) := R1.out.set 1 _
  have K1' := Lib.hid (K1.out.setCell (p := ⟨rb, 1, none⟩) (Or.inr rfl) (.int .i64 (k2 : Int)))
  have E1' := Lib.hid (E1.out.on ((Kept.refl rb w3.heap.size w3).setCell (p := ⟨rb, 1, none⟩) (Or.inr rfl) (.int .i64 (k2 : Int))))
  clear r2 R1 K1 E1 c0 c1 c2 z1 z2 hlt1
  generalize w3.setCell ⟨rb, 1, none⟩ (.int .i64 (k2 : Int)) = w4 at *
  have r2 := r2'
  have R1 := R1'
  have K1 := K1'
  have E1 := E1'
  clear r2' R1' K1' E1'
  go_wp2_with fail
  refine (HRG.out _).mono ?_
  rintro e w5 ⟨rfl, hb⟩; (try dsimp only)
  have r2' := Lib.hid (r2.out.on hb)
  have R1' : Hid (RD w5 rb (.slice (some ⟨bk, off, none⟩) l.length cp) k2 o) := R1.out.on hb
  have K1' := Lib.hid (K1.out.then hb K1.out.size)
  have E1' := Lib.hid (E1.out.on (Kept.of hb))
  clear r2 R1 K1 E1 hb
  have r2 := r2'
  have R1 := R1'
  have K1 := K1'
  have E1 := E1'
  clear r2' R1' K1' E1'
  go_wp2_with fail
  refine (HST.out _).mono ?_
  rintro e w6 ⟨rfl, hb⟩; (try dsimp only)
  have r2' := Lib.hid (r2.out.on hb)
  have R1' : Hid (RD w6 rb (.slice (some ⟨bk, off, none⟩) l.length cp) k2 o) := R1.out.on hb
  have K1' := Lib.hid (K1.out.then hb K1.out.size)
  have E1' := Lib.hid (E1.out.on (Kept.of hb))
  clear r2 R1 K1 E1 hb
  have r2 := r2'
  have R1 := R1'
  have K1 := K1'
  have E1 := E1'
  clear r2' R1' K1' E1'
  have HR4 := r2
  obtain ⟨j0, j1, j2, j3, j4, j5, j6, j7, f0, f1, f2, f3, f4, f5, f6, f7, z4⟩ := r2.out.eight
  have R5 := Lib.hid (r2.out.setRow_same (partA 1 P 0 0 (.slice none 0 0)))
  have P5 : Hid (PVal (w6.setRow g2 (partA 1 P 0 0 (.slice none 0 0))) w.heap.size (partA 1 P 0 0 (.slice none 0 0)) (setT P)) := PVal.leaf _ _ _ _ _ _
  have D5 : Hid (RD (w6.setRow g2 (partA 1 P 0 0 (.slice none 0 0))) rb (.slice (some ⟨bk, off, none⟩) l.length cp) (k2) o) := R1.out.setRow (by omega) _
  have K5 : Hid (Kept rb w.heap.size w (w6.setRow g2 (partA 1 P 0 0 (.slice none 0 0)))) := K1.out.setRow (Or.inl hg2B.out) _
  clear r2 R1 K1 E1
  go_wp2
  rw [set8 HR4.out]
  exact bodyPost_ret (pret rfl R5.out rfl rfl rfl) rfl ⟨(partA 1 P 0 0 (.slice none 0 0)), _, rfl, ⟨rfl, by rw [HQ.out]; exact P5.out⟩, by have := D5.out; rw [HK2.out] at this; exact this, K5.out⟩
end Go.Proofs.Ytfmekmbdienbjaa
