/- Layer 4: the contract of atom. -/
import Derived.Test.YtfmekmbdienbjaaEreF
import Derived.Test.YtfmekmbdienbjaaEreG
import Derived.Test.YtfmekmbdienbjaaEreH
import Derived.Test.YtfmekmbdienbjaaEreI
namespace Go.Proofs.Ytfmekmbdienbjaa
set_option linter.unusedSimpArgs false
set_option linter.unusedVariables false
set_option linter.unnecessarySimpa false
open Go.RowKit

set_option maxRecDepth 100000 in
set_option maxHeartbeats 8000000 in
theorem atm_s42 {w : World} {rb : Nat} {v : Value} {l : List UInt8} (h : Env w rb v l) (hl : l.length ≤ 1000000000) (k o : Nat) (hk : k < l.length) (hr : RD w rb v k o) (hc : isL l k 42 = true) :
    Calls Try.prog 21 #[.pointer (some ⟨rb, 0, none⟩)] w fun e w' => EndR rb v o w (.bad k 4) e w' := by
  have HF : Hid (∀ a c W, Calls Try.prog 11 #[.int .i64 ((a : Nat) : Int), .int .i64 ((c : Nat) : Int)] W fun e w' => e = .returned (.iface 47 (.pointer (some ⟨W.heap.size, 0, none⟩))) ∧ w' = W.alloc (.cells #[.int .i64 (a : Int), .iface 41 (.int .i64 (c : Int))] 49)) := fun a c W => efault_u a c W
  have H := Lib.hid h
  have HR := Lib.hid hr
  have hrl := h.rl
  obtain ⟨k1, hk1⟩ : ∃ x, x = k + 1 := ⟨_, rfl⟩
  obtain ⟨k2, hk2⟩ : ∃ x, x = k + 2 := ⟨_, rfl⟩
  have wk : IntKind.i64.wrap ((k : Int) + 1) = (k1 : Int) := by rw [IntKind.wrap_i64]; omega
  have wk2 : IntKind.i64.wrap ((k : Int) + 2) = (k2 : Int) := by rw [IntKind.wrap_i64]; omega
  have HK1 := Lib.hid hk1
  have HK2 := Lib.hid hk2
  have hx0 := isL_lt hc
  have hxc : bv (l.getD k 0) = .int .u8 42 := by rw [hx0.2]; rfl
  clear hc
  clear h hr
  go_enter Try.func21, Try.ntmps21
  go_upto_region 1 with fail
  have K1 : Hid (Kept rb w.heap.size w (w.alloc (.cells zeroPA 29))) := (Kept.refl _ _ _).alloc (Nat.le_refl _) _
  have r2 : Hid (Row (w.alloc (.cells zeroPA 29)) w.heap.size 29 zeroPA) := Row.new w _ _
  have R1 : Hid (RD (w.alloc (.cells zeroPA 29)) rb v k o) := HR.out.on ((Below.refl _ _).alloc (Nat.le_refl _) _)
  have E1 : Hid (Env (w.alloc (.cells zeroPA 29)) rb v l) := H.out.on K1.out
  generalize w.alloc (.cells zeroPA 29) = w1 at *
  obtain ⟨g2, hg2⟩ : ∃ g, g = w.heap.size := ⟨_, rfl⟩
  rw [← hg2]
  rw [← hg2] at r2
  have hg2l : rb < g2 := by rw [hg2]; exact hrl
  have hg2B : Hid (w.heap.size ≤ g2) := Nat.le_of_eq hg2.symm
  clear hg2 H HR hrl hk1 hk2
  obtain ⟨p, cp, rfl, hlc, hcm, hU⟩ := E1.out.bs
  clear hU
  obtain ⟨bk, off, rfl, hbb, hcs⟩ := E1.out.at (by rintro rfl; simp at hk)
  have k0 : w1.cell? ⟨bk, off + k, none⟩ = some (.int .u8 42) := by rw [← hxc]; exact hcs k hx0.1
  have hKa : (0 : Int) ≤ (k : Int) := by omega
  have hKb : (k : Int) < (l.length : Int) := by omega
  have hbw : bk < w1.heap.size := Nat.lt_trans hbb R1.out.lt
  clear hcs
  have c0 : w1.cell? ⟨rb, 0, none⟩ = some (.slice (some ⟨bk, off, none⟩) l.length cp) := R1.out.cell 0
  have c1 : w1.cell? ⟨rb, 1, none⟩ = some (.int .i64 ((k : Nat) : Int)) := R1.out.cell 1
  have c2 : w1.cell? ⟨rb, 2, none⟩ = some (.int .i64 ((o : Nat) : Int)) := R1.out.cell 2
  have z1 : w1.frozen? ⟨rb, 1, none⟩ = false := R1.out.froz 1
  have z2 : w1.frozen? ⟨rb, 2, none⟩ = false := R1.out.froz 2
  have hlt1 := R1.out.lt
  go_quiet (fail)
  have KQ := Lib.hid ((Kept.refl rb w1.heap.size w1).then (below_drewN (Below.refl w1.heap.size w1) nq) (Nat.le_refl _))
  have r2' : Hid (Row (w1.drewN nq) g2 29 zeroPA) := r2.out.kept KQ.out r2.out.lt (by omega)
  have R1' : Hid (RD (w1.drewN nq) rb (.slice (some ⟨bk, off, none⟩) l.length cp) k o) := R1.out.on (below_drewN (Below.refl _ _) _)
  have K1' := Lib.hid (K1.out.thenK KQ.out K1.out.size)
  have E1' := Lib.hid (E1.out.on KQ.out)
  clear r2 R1 K1 E1 c0 c1 c2 z1 z2 hlt1 KQ
  generalize w1.drewN nq = w2 at *
  have r2 := r2'
  have R1 := R1'
  have K1 := K1'
  have E1 := E1'
  clear r2' R1' K1' E1'
  have c0 : w2.cell? ⟨rb, 0, none⟩ = some (.slice (some ⟨bk, off, none⟩) l.length cp) := R1.out.cell 0
  have c1 : w2.cell? ⟨rb, 1, none⟩ = some (.int .i64 ((k : Nat) : Int)) := R1.out.cell 1
  have c2 : w2.cell? ⟨rb, 2, none⟩ = some (.int .i64 ((o : Nat) : Int)) := R1.out.cell 2
  have z1 : w2.frozen? ⟨rb, 1, none⟩ = false := R1.out.froz 1
  have z2 : w2.frozen? ⟨rb, 2, none⟩ = false := R1.out.froz 2
  have hlt1 := R1.out.lt
  clear k0 hKa hKb hbw
  clear hx0 hxc
  go_wp2_with fail
  refine (HF.out k 4 _).mono ?_; rintro e w3 ⟨rfl, hw3⟩; (try dsimp only)
  have R4 : Row w3 g2 29 zeroPA := by rw [hw3]; exact r2.out.alloc _
  have F4 : FRow w3 w2.heap.size k 4 := by rw [hw3]; exact Row.new w2 _ _
  have D4 : RD w3 rb (.slice (some ⟨bk, off, none⟩) l.length cp) k o := by rw [hw3]; exact R1.out.alloc _
  have K4 : Kept rb w.heap.size w w3 := by rw [hw3]; exact K1.out.alloc K1.out.size _
  have HR4 := Lib.hid R4
  obtain ⟨j0, j1, j2, j3, j4, j5, j6, j7, f0, f1, f2, f3, f4, f5, f6, f7, z4⟩ := R4.eight
  have R5 := Lib.hid (R4.setRow_same zeroPA)
  have F5 : Hid (FRow (w3.setRow g2 zeroPA) w2.heap.size k 4) := F4.setRow (Nat.ne_of_gt r2.out.lt) _
  have D5 : Hid (RD (w3.setRow g2 zeroPA) rb (.slice (some ⟨bk, off, none⟩) l.length cp) k o) := D4.setRow (by omega) _
  have K5 : Hid (Kept rb w.heap.size w (w3.setRow g2 zeroPA)) := K4.setRow (Or.inl hg2B.out) _
  have hne : Hid (w2.heap.size ≠ rb) := Nat.ne_of_gt R1.out.lt
  have hwb : Hid (w.heap.size ≤ w2.heap.size) := K1.out.size
  clear R4 F4 D4 K4 hw3
  go_wp2
  rw [set8 HR4.out]
  exact bodyPost_ret (pret rfl R5.out rfl rfl rfl) rfl ⟨zeroPA, _, rfl, ⟨rfl, _, rfl, hwb.out, hne.out, F5.out⟩, ⟨k, o, D5.out⟩, K5.out⟩
set_option maxRecDepth 100000 in
set_option maxHeartbeats 8000000 in
theorem atm_s43 {w : World} {rb : Nat} {v : Value} {l : List UInt8} (h : Env w rb v l) (hl : l.length ≤ 1000000000) (k o : Nat) (hk : k < l.length) (hr : RD w rb v k o) (hc : isL l k 43 = true) :
    Calls Try.prog 21 #[.pointer (some ⟨rb, 0, none⟩)] w fun e w' => EndR rb v o w (.bad k 4) e w' := by
  have HF : Hid (∀ a c W, Calls Try.prog 11 #[.int .i64 ((a : Nat) : Int), .int .i64 ((c : Nat) : Int)] W fun e w' => e = .returned (.iface 47 (.pointer (some ⟨W.heap.size, 0, none⟩))) ∧ w' = W.alloc (.cells #[.int .i64 (a : Int), .iface 41 (.int .i64 (c : Int))] 49)) := fun a c W => efault_u a c W
  have H := Lib.hid h
  have HR := Lib.hid hr
  have hrl := h.rl
  obtain ⟨k1, hk1⟩ : ∃ x, x = k + 1 := ⟨_, rfl⟩
  obtain ⟨k2, hk2⟩ : ∃ x, x = k + 2 := ⟨_, rfl⟩
  have wk : IntKind.i64.wrap ((k : Int) + 1) = (k1 : Int) := by rw [IntKind.wrap_i64]; omega
  have wk2 : IntKind.i64.wrap ((k : Int) + 2) = (k2 : Int) := by rw [IntKind.wrap_i64]; omega
  have HK1 := Lib.hid hk1
  have HK2 := Lib.hid hk2
  have hx0 := isL_lt hc
  have hxc : bv (l.getD k 0) = .int .u8 43 := by rw [hx0.2]; rfl
  clear hc
  clear h hr
  go_enter Try.func21, Try.ntmps21
  go_upto_region 1 with fail
  have K1 : Hid (Kept rb w.heap.size w (w.alloc (.cells zeroPA 29))) := (Kept.refl _ _ _).alloc (Nat.le_refl _) _
  have r2 : Hid (Row (w.alloc (.cells zeroPA 29)) w.heap.size 29 zeroPA) := Row.new w _ _
  have R1 : Hid (RD (w.alloc (.cells zeroPA 29)) rb v k o) := HR.out.on ((Below.refl _ _).alloc (Nat.le_refl _) _)
  have E1 : Hid (Env (w.alloc (.cells zeroPA 29)) rb v l) := H.out.on K1.out
  generalize w.alloc (.cells zeroPA 29) = w1 at *
  obtain ⟨g2, hg2⟩ : ∃ g, g = w.heap.size := ⟨_, rfl⟩
  rw [← hg2]
  rw [← hg2] at r2
  have hg2l : rb < g2 := by rw [hg2]; exact hrl
  have hg2B : Hid (w.heap.size ≤ g2) := Nat.le_of_eq hg2.symm
  clear hg2 H HR hrl hk1 hk2
  obtain ⟨p, cp, rfl, hlc, hcm, hU⟩ := E1.out.bs
  clear hU
  obtain ⟨bk, off, rfl, hbb, hcs⟩ := E1.out.at (by rintro rfl; simp at hk)
  have k0 : w1.cell? ⟨bk, off + k, none⟩ = some (.int .u8 43) := by rw [← hxc]; exact hcs k hx0.1
  have hKa : (0 : Int) ≤ (k : Int) := by omega
  have hKb : (k : Int) < (l.length : Int) := by omega
  have hbw : bk < w1.heap.size := Nat.lt_trans hbb R1.out.lt
  clear hcs
  have c0 : w1.cell? ⟨rb, 0, none⟩ = some (.slice (some ⟨bk, off, none⟩) l.length cp) := R1.out.cell 0
  have c1 : w1.cell? ⟨rb, 1, none⟩ = some (.int .i64 ((k : Nat) : Int)) := R1.out.cell 1
  have c2 : w1.cell? ⟨rb, 2, none⟩ = some (.int .i64 ((o : Nat) : Int)) := R1.out.cell 2
  have z1 : w1.frozen? ⟨rb, 1, none⟩ = false := R1.out.froz 1
  have z2 : w1.frozen? ⟨rb, 2, none⟩ = false := R1.out.froz 2
  have hlt1 := R1.out.lt
  go_quiet (fail)
  have KQ := Lib.hid ((Kept.refl rb w1.heap.size w1).then (below_drewN (Below.refl w1.heap.size w1) nq) (Nat.le_refl _))
  have r2' : Hid (Row (w1.drewN nq) g2 29 zeroPA) := r2.out.kept KQ.out r2.out.lt (by omega)
  have R1' : Hid (RD (w1.drewN nq) rb (.slice (some ⟨bk, off, none⟩) l.length cp) k o) := R1.out.on (below_drewN (Below.refl _ _) _)
  have K1' := Lib.hid (K1.out.thenK KQ.out K1.out.size)
  have E1' := Lib.hid (E1.out.on KQ.out)
  clear r2 R1 K1 E1 c0 c1 c2 z1 z2 hlt1 KQ
  generalize w1.drewN nq = w2 at *
  have r2 := r2'
  have R1 := R1'
  have K1 := K1'
  have E1 := E1'
  clear r2' R1' K1' E1'
  have c0 : w2.cell? ⟨rb, 0, none⟩ = some (.slice (some ⟨bk, off, none⟩) l.length cp) := R1.out.cell 0
  have c1 : w2.cell? ⟨rb, 1, none⟩ = some (.int .i64 ((k : Nat) : Int)) := R1.out.cell 1
  have c2 : w2.cell? ⟨rb, 2, none⟩ = some (.int .i64 ((o : Nat) : Int)) := R1.out.cell 2
  have z1 : w2.frozen? ⟨rb, 1, none⟩ = false := R1.out.froz 1
  have z2 : w2.frozen? ⟨rb, 2, none⟩ = false := R1.out.froz 2
  have hlt1 := R1.out.lt
  clear k0 hKa hKb hbw
  clear hx0 hxc
  go_wp2_with fail
  refine (HF.out k 4 _).mono ?_; rintro e w3 ⟨rfl, hw3⟩; (try dsimp only)
  have R4 : Row w3 g2 29 zeroPA := by rw [hw3]; exact r2.out.alloc _
  have F4 : FRow w3 w2.heap.size k 4 := by rw [hw3]; exact Row.new w2 _ _
  have D4 : RD w3 rb (.slice (some ⟨bk, off, none⟩) l.length cp) k o := by rw [hw3]; exact R1.out.alloc _
  have K4 : Kept rb w.heap.size w w3 := by rw [hw3]; exact K1.out.alloc K1.out.size _
  have HR4 := Lib.hid R4
  obtain ⟨j0, j1, j2, j3, j4, j5, j6, j7, f0, f1, f2, f3, f4, f5, f6, f7, z4⟩ := R4.eight
  have R5 := Lib.hid (R4.setRow_same zeroPA)
  have F5 : Hid (FRow (w3.setRow g2 zeroPA) w2.heap.size k 4) := F4.setRow (Nat.ne_of_gt r2.out.lt) _
  have D5 : Hid (RD (w3.setRow g2 zeroPA) rb (.slice (some ⟨bk, off, none⟩) l.length cp) k o) := D4.setRow (by omega) _
  have K5 : Hid (Kept rb w.heap.size w (w3.setRow g2 zeroPA)) := K4.setRow (Or.inl hg2B.out) _
  have hne : Hid (w2.heap.size ≠ rb) := Nat.ne_of_gt R1.out.lt
  have hwb : Hid (w.heap.size ≤ w2.heap.size) := K1.out.size
  clear R4 F4 D4 K4 hw3
  go_wp2
  rw [set8 HR4.out]
  exact bodyPost_ret (pret rfl R5.out rfl rfl rfl) rfl ⟨zeroPA, _, rfl, ⟨rfl, _, rfl, hwb.out, hne.out, F5.out⟩, ⟨k, o, D5.out⟩, K5.out⟩
set_option maxRecDepth 100000 in
set_option maxHeartbeats 8000000 in
theorem atm_s63 {w : World} {rb : Nat} {v : Value} {l : List UInt8} (h : Env w rb v l) (hl : l.length ≤ 1000000000) (k o : Nat) (hk : k < l.length) (hr : RD w rb v k o) (hc : isL l k 63 = true) :
    Calls Try.prog 21 #[.pointer (some ⟨rb, 0, none⟩)] w fun e w' => EndR rb v o w (.bad k 4) e w' := by
  have HF : Hid (∀ a c W, Calls Try.prog 11 #[.int .i64 ((a : Nat) : Int), .int .i64 ((c : Nat) : Int)] W fun e w' => e = .returned (.iface 47 (.pointer (some ⟨W.heap.size, 0, none⟩))) ∧ w' = W.alloc (.cells #[.int .i64 (a : Int), .iface 41 (.int .i64 (c : Int))] 49)) := fun a c W => efault_u a c W
  have H := Lib.hid h
  have HR := Lib.hid hr
  have hrl := h.rl
  obtain ⟨k1, hk1⟩ : ∃ x, x = k + 1 := ⟨_, rfl⟩
  obtain ⟨k2, hk2⟩ : ∃ x, x = k + 2 := ⟨_, rfl⟩
  have wk : IntKind.i64.wrap ((k : Int) + 1) = (k1 : Int) := by rw [IntKind.wrap_i64]; omega
  have wk2 : IntKind.i64.wrap ((k : Int) + 2) = (k2 : Int) := by rw [IntKind.wrap_i64]; omega
  have HK1 := Lib.hid hk1
  have HK2 := Lib.hid hk2
  have hx0 := isL_lt hc
  have hxc : bv (l.getD k 0) = .int .u8 63 := by rw [hx0.2]; rfl
  clear hc
  clear h hr
  go_enter Try.func21, Try.ntmps21
  go_upto_region 1 with fail
  have K1 : Hid (Kept rb w.heap.size w (w.alloc (.cells zeroPA 29))) := (Kept.refl _ _ _).alloc (Nat.le_refl _) _
  have r2 : Hid (Row (w.alloc (.cells zeroPA 29)) w.heap.size 29 zeroPA) := Row.new w _ _
  have R1 : Hid (RD (w.alloc (.cells zeroPA 29)) rb v k o) := HR.out.on ((Below.refl _ _).alloc (Nat.le_refl _) _)
  have E1 : Hid (Env (w.alloc (.cells zeroPA 29)) rb v l) := H.out.on K1.out
  generalize w.alloc (.cells zeroPA 29) = w1 at *
  obtain ⟨g2, hg2⟩ : ∃ g, g = w.heap.size := ⟨_, rfl⟩
  rw [← hg2]
  rw [← hg2] at r2
  have hg2l : rb < g2 := by rw [hg2]; exact hrl
  have hg2B : Hid (w.heap.size ≤ g2) := Nat.le_of_eq hg2.symm
  clear hg2 H HR hrl hk1 hk2
  obtain ⟨p, cp, rfl, hlc, hcm, hU⟩ := E1.out.bs
  clear hU
  obtain ⟨bk, off, rfl, hbb, hcs⟩ := E1.out.at (by rintro rfl; simp at hk)
  have k0 : w1.cell? ⟨bk, off + k, none⟩ = some (.int .u8 63) := by rw [← hxc]; exact hcs k hx0.1
  have hKa : (0 : Int) ≤ (k : Int) := by omega
  have hKb : (k : Int) < (l.length : Int) := by omega
  have hbw : bk < w1.heap.size := Nat.lt_trans hbb R1.out.lt
  clear hcs
  have c0 : w1.cell? ⟨rb, 0, none⟩ = some (.slice (some ⟨bk, off, none⟩) l.length cp) := R1.out.cell 0
  have c1 : w1.cell? ⟨rb, 1, none⟩ = some (.int .i64 ((k : Nat) : Int)) := R1.out.cell 1
  have c2 : w1.cell? ⟨rb, 2, none⟩ = some (.int .i64 ((o : Nat) : Int)) := R1.out.cell 2
  have z1 : w1.frozen? ⟨rb, 1, none⟩ = false := R1.out.froz 1
  have z2 : w1.frozen? ⟨rb, 2, none⟩ = false := R1.out.froz 2
  have hlt1 := R1.out.lt
  go_quiet (fail)
  have KQ := Lib.hid ((Kept.refl rb w1.heap.size w1).then (below_drewN (Below.refl w1.heap.size w1) nq) (Nat.le_refl _))
  have r2' : Hid (Row (w1.drewN nq) g2 29 zeroPA) := r2.out.kept KQ.out r2.out.lt (by omega)
  have R1' : Hid (RD (w1.drewN nq) rb (.slice (some ⟨bk, off, none⟩) l.length cp) k o) := R1.out.on (below_drewN (Below.refl _ _) _)
  have K1' := Lib.hid (K1.out.thenK KQ.out K1.out.size)
  have E1' := Lib.hid (E1.out.on KQ.out)
  clear r2 R1 K1 E1 c0 c1 c2 z1 z2 hlt1 KQ
  generalize w1.drewN nq = w2 at *
  have r2 := r2'
  have R1 := R1'
  have K1 := K1'
  have E1 := E1'
  clear r2' R1' K1' E1'
  have c0 : w2.cell? ⟨rb, 0, none⟩ = some (.slice (some ⟨bk, off, none⟩) l.length cp) := R1.out.cell 0
  have c1 : w2.cell? ⟨rb, 1, none⟩ = some (.int .i64 ((k : Nat) : Int)) := R1.out.cell 1
  have c2 : w2.cell? ⟨rb, 2, none⟩ = some (.int .i64 ((o : Nat) : Int)) := R1.out.cell 2
  have z1 : w2.frozen? ⟨rb, 1, none⟩ = false := R1.out.froz 1
  have z2 : w2.frozen? ⟨rb, 2, none⟩ = false := R1.out.froz 2
  have hlt1 := R1.out.lt
  clear k0 hKa hKb hbw
  clear hx0 hxc
  go_wp2_with fail
  refine (HF.out k 4 _).mono ?_; rintro e w3 ⟨rfl, hw3⟩; (try dsimp only)
  have R4 : Row w3 g2 29 zeroPA := by rw [hw3]; exact r2.out.alloc _
  have F4 : FRow w3 w2.heap.size k 4 := by rw [hw3]; exact Row.new w2 _ _
  have D4 : RD w3 rb (.slice (some ⟨bk, off, none⟩) l.length cp) k o := by rw [hw3]; exact R1.out.alloc _
  have K4 : Kept rb w.heap.size w w3 := by rw [hw3]; exact K1.out.alloc K1.out.size _
  have HR4 := Lib.hid R4
  obtain ⟨j0, j1, j2, j3, j4, j5, j6, j7, f0, f1, f2, f3, f4, f5, f6, f7, z4⟩ := R4.eight
  have R5 := Lib.hid (R4.setRow_same zeroPA)
  have F5 : Hid (FRow (w3.setRow g2 zeroPA) w2.heap.size k 4) := F4.setRow (Nat.ne_of_gt r2.out.lt) _
  have D5 : Hid (RD (w3.setRow g2 zeroPA) rb (.slice (some ⟨bk, off, none⟩) l.length cp) k o) := D4.setRow (by omega) _
  have K5 : Hid (Kept rb w.heap.size w (w3.setRow g2 zeroPA)) := K4.setRow (Or.inl hg2B.out) _
  have hne : Hid (w2.heap.size ≠ rb) := Nat.ne_of_gt R1.out.lt
  have hwb : Hid (w.heap.size ≤ w2.heap.size) := K1.out.size
  clear R4 F4 D4 K4 hw3
  go_wp2
  rw [set8 HR4.out]
  exact bodyPost_ret (pret rfl R5.out rfl rfl rfl) rfl ⟨zeroPA, _, rfl, ⟨rfl, _, rfl, hwb.out, hne.out, F5.out⟩, ⟨k, o, D5.out⟩, K5.out⟩
set_option maxRecDepth 100000 in
set_option maxHeartbeats 8000000 in
theorem atm_grp {w : World} {rb : Nat} {v : Value} {l : List UInt8} (h : Env w rb v l) (hl : l.length ≤ 1000000000) (k o : Nat) (hk : k < l.length) (hr : RD w rb v k o) (hc : isL l k 40 = true) (R : ER) (HC : Hid (∀ W, Env W rb v l → RD W rb v k o → Calls Try.prog 23 #[.pointer (some ⟨rb, 0, none⟩)] W fun e w' => EndR rb v o W R e w')) :
    Calls Try.prog 21 #[.pointer (some ⟨rb, 0, none⟩)] w fun e w' => EndR rb v o w (R) e w' := by
  have H := Lib.hid h
  have HR := Lib.hid hr
  have hrl := h.rl
  obtain ⟨k1, hk1⟩ : ∃ x, x = k + 1 := ⟨_, rfl⟩
  obtain ⟨k2, hk2⟩ : ∃ x, x = k + 2 := ⟨_, rfl⟩
  have wk : IntKind.i64.wrap ((k : Int) + 1) = (k1 : Int) := by rw [IntKind.wrap_i64]; omega
  have wk2 : IntKind.i64.wrap ((k : Int) + 2) = (k2 : Int) := by rw [IntKind.wrap_i64]; omega
  have HK1 := Lib.hid hk1
  have HK2 := Lib.hid hk2
  have hx0 := isL_lt hc
  have hxc : bv (l.getD k 0) = .int .u8 40 := by rw [hx0.2]; rfl
  clear hc
  clear h hr
  go_enter Try.func21, Try.ntmps21
  go_upto_region 1 with fail
  have K1 : Hid (Kept rb w.heap.size w (w.alloc (.cells zeroPA 29))) := (Kept.refl _ _ _).alloc (Nat.le_refl _) _
  have r2 : Hid (Row (w.alloc (.cells zeroPA 29)) w.heap.size 29 zeroPA) := Row.new w _ _
  have R1 : Hid (RD (w.alloc (.cells zeroPA 29)) rb v k o) := HR.out.on ((Below.refl _ _).alloc (Nat.le_refl _) _)
  have E1 : Hid (Env (w.alloc (.cells zeroPA 29)) rb v l) := H.out.on K1.out
  generalize w.alloc (.cells zeroPA 29) = w1 at *
  obtain ⟨g2, hg2⟩ : ∃ g, g = w.heap.size := ⟨_, rfl⟩
  rw [← hg2]
  rw [← hg2] at r2
  have hg2l : rb < g2 := by rw [hg2]; exact hrl
  have hg2B : Hid (w.heap.size ≤ g2) := Nat.le_of_eq hg2.symm
  clear hg2 H HR hrl hk1 hk2
  obtain ⟨p, cp, rfl, hlc, hcm, hU⟩ := E1.out.bs
  clear hU
  obtain ⟨bk, off, rfl, hbb, hcs⟩ := E1.out.at (by rintro rfl; simp at hk)
  have k0 : w1.cell? ⟨bk, off + k, none⟩ = some (.int .u8 40) := by rw [← hxc]; exact hcs k hx0.1
  have hKa : (0 : Int) ≤ (k : Int) := by omega
  have hKb : (k : Int) < (l.length : Int) := by omega
  have hbw : bk < w1.heap.size := Nat.lt_trans hbb R1.out.lt
  clear hcs
  have c0 : w1.cell? ⟨rb, 0, none⟩ = some (.slice (some ⟨bk, off, none⟩) l.length cp) := R1.out.cell 0
  have c1 : w1.cell? ⟨rb, 1, none⟩ = some (.int .i64 ((k : Nat) : Int)) := R1.out.cell 1
  have c2 : w1.cell? ⟨rb, 2, none⟩ = some (.int .i64 ((o : Nat) : Int)) := R1.out.cell 2
  have z1 : w1.frozen? ⟨rb, 1, none⟩ = false := R1.out.froz 1
  have z2 : w1.frozen? ⟨rb, 2, none⟩ = false := R1.out.froz 2
  have hlt1 := R1.out.lt
  go_quiet (fail)
  have KQ := Lib.hid ((Kept.refl rb w1.heap.size w1).then (below_drewN (Below.refl w1.heap.size w1) nq) (Nat.le_refl _))
  have r2' : Hid (Row (w1.drewN nq) g2 29 zeroPA) := r2.out.kept KQ.out r2.out.lt (by omega)
  have R1' : Hid (RD (w1.drewN nq) rb (.slice (some ⟨bk, off, none⟩) l.length cp) k o) := R1.out.on (below_drewN (Below.refl _ _) _)
  have K1' := Lib.hid (K1.out.thenK KQ.out K1.out.size)
  have E1' := Lib.hid (E1.out.on KQ.out)
  clear r2 R1 K1 E1 c0 c1 c2 z1 z2 hlt1 KQ
  generalize w1.drewN nq = w2 at *
  have r2 := r2'
  have R1 := R1'
  have K1 := K1'
  have E1 := E1'
  clear r2' R1' K1' E1'
  have c0 : w2.cell? ⟨rb, 0, none⟩ = some (.slice (some ⟨bk, off, none⟩) l.length cp) := R1.out.cell 0
  have c1 : w2.cell? ⟨rb, 1, none⟩ = some (.int .i64 ((k : Nat) : Int)) := R1.out.cell 1
  have c2 : w2.cell? ⟨rb, 2, none⟩ = some (.int .i64 ((o : Nat) : Int)) := R1.out.cell 2
  have z1 : w2.frozen? ⟨rb, 1, none⟩ = false := R1.out.froz 1
  have z2 : w2.frozen? ⟨rb, 2, none⟩ = false := R1.out.froz 2
  have hlt1 := R1.out.lt
  clear k0 hKa hKb hbw
  clear hx0 hxc
  have hg2B4 : g2 < w2.heap.size := r2.out.lt
  have hszK := Lib.hid K1.out.size
  go_wp2_with fail
  refine (HC.out _ E1.out R1.out).mono ?_
  rintro e w5 ⟨cs, ev, rfl, hout, hat, hkp⟩; (try dsimp only)
  obtain ⟨y0, y1, y2, y3, y4, y5, y6, ad, nn, cap, rfl⟩ := hout.form
  have r2' : Hid (Row w5 g2 29 zeroPA) := r2.out.kept hkp r2.out.lt (by omega)
  have K1' := Lib.hid (K1.out.thenK hkp K1.out.size)
  have R5 := Lib.hid (r2'.out.setRow_same #[.int .i64 y0, .int .u64 y1, .int .u64 y2, .int .u64 y3, .int .u64 y4, .int .i64 y5, .int .i64 y6, .slice ad nn cap])
  have O5 := Lib.hid ((hout.setRow hg2B4 #[.int .i64 y0, .int .u64 y1, .int .u64 y2, .int .u64 y3, .int .u64 y4, .int .i64 y5, .int .i64 y6, .slice ad nn cap]).le hszK.out)
  have A5 := Lib.hid (hat.setRow (Nat.ne_of_lt hg2l) #[.int .i64 y0, .int .u64 y1, .int .u64 y2, .int .u64 y3, .int .u64 y4, .int .i64 y5, .int .i64 y6, .slice ad nn cap])
  have K5 := Lib.hid (K1'.out.setRow (g := g2) (Or.inl hg2B.out) #[.int .i64 y0, .int .u64 y1, .int .u64 y2, .int .u64 y3, .int .u64 y4, .int .i64 y5, .int .i64 y6, .slice ad nn cap])
  have HR4 := r2'
  obtain ⟨j0, j1, j2, j3, j4, j5, j6, j7, f0, f1, f2, f3, f4, f5, f6, f7, z4⟩ := r2'.out.eight
  clear r2 R1 K1 E1 hout hat hkp c0 c1 c2 z1 z2 hlt1 HC r2'
  go_wp2
  rw [set8 HR4.out]
  exact bodyPost_ret (pret rfl R5.out rfl rfl rfl) rfl ⟨_, _, rfl, O5.out, A5.out, K5.out⟩
set_option maxRecDepth 100000 in
set_option maxHeartbeats 8000000 in
theorem atm_brk {w : World} {rb : Nat} {v : Value} {l : List UInt8} (h : Env w rb v l) (hl : l.length ≤ 1000000000) (k o : Nat) (hk : k < l.length) (hr : RD w rb v k o) (hc : isL l k 91 = true) (R : ER) (HC : Hid (∀ W, Env W rb v l → RD W rb v k o → Calls Try.prog 24 #[.pointer (some ⟨rb, 0, none⟩)] W fun e w' => EndR rb v o W R e w')) :
    Calls Try.prog 21 #[.pointer (some ⟨rb, 0, none⟩)] w fun e w' => EndR rb v o w (R) e w' := by
  have H := Lib.hid h
  have HR := Lib.hid hr
  have hrl := h.rl
  obtain ⟨k1, hk1⟩ : ∃ x, x = k + 1 := ⟨_, rfl⟩
  obtain ⟨k2, hk2⟩ : ∃ x, x = k + 2 := ⟨_, rfl⟩
  have wk : IntKind.i64.wrap ((k : Int) + 1) = (k1 : Int) := by rw [IntKind.wrap_i64]; omega
  have wk2 : IntKind.i64.wrap ((k : Int) + 2) = (k2 : Int) := by rw [IntKind.wrap_i64]; omega
  have HK1 := Lib.hid hk1
  have HK2 := Lib.hid hk2
  have hx0 := isL_lt hc
  have hxc : bv (l.getD k 0) = .int .u8 91 := by rw [hx0.2]; rfl
  clear hc
  clear h hr
  go_enter Try.func21, Try.ntmps21
  go_upto_region 1 with fail
  have K1 : Hid (Kept rb w.heap.size w (w.alloc (.cells zeroPA 29))) := (Kept.refl _ _ _).alloc (Nat.le_refl _) _
  have r2 : Hid (Row (w.alloc (.cells zeroPA 29)) w.heap.size 29 zeroPA) := Row.new w _ _
  have R1 : Hid (RD (w.alloc (.cells zeroPA 29)) rb v k o) := HR.out.on ((Below.refl _ _).alloc (Nat.le_refl _) _)
  have E1 : Hid (Env (w.alloc (.cells zeroPA 29)) rb v l) := H.out.on K1.out
  generalize w.alloc (.cells zeroPA 29) = w1 at *
  obtain ⟨g2, hg2⟩ : ∃ g, g = w.heap.size := ⟨_, rfl⟩
  rw [← hg2]
  rw [← hg2] at r2
  have hg2l : rb < g2 := by rw [hg2]; exact hrl
  have hg2B : Hid (w.heap.size ≤ g2) := Nat.le_of_eq hg2.symm
  clear hg2 H HR hrl hk1 hk2
  obtain ⟨p, cp, rfl, hlc, hcm, hU⟩ := E1.out.bs
  clear hU
  obtain ⟨bk, off, rfl, hbb, hcs⟩ := E1.out.at (by rintro rfl; simp at hk)
  have k0 : w1.cell? ⟨bk, off + k, none⟩ = some (.int .u8 91) := by rw [← hxc]; exact hcs k hx0.1
  have hKa : (0 : Int) ≤ (k : Int) := by omega
  have hKb : (k : Int) < (l.length : Int) := by omega
  have hbw : bk < w1.heap.size := Nat.lt_trans hbb R1.out.lt
  clear hcs
  have c0 : w1.cell? ⟨rb, 0, none⟩ = some (.slice (some ⟨bk, off, none⟩) l.length cp) := R1.out.cell 0
  have c1 : w1.cell? ⟨rb, 1, none⟩ = some (.int .i64 ((k : Nat) : Int)) := R1.out.cell 1
  have c2 : w1.cell? ⟨rb, 2, none⟩ = some (.int .i64 ((o : Nat) : Int)) := R1.out.cell 2
  have z1 : w1.frozen? ⟨rb, 1, none⟩ = false := R1.out.froz 1
  have z2 : w1.frozen? ⟨rb, 2, none⟩ = false := R1.out.froz 2
  have hlt1 := R1.out.lt
  go_quiet (fail)
  have KQ := Lib.hid ((Kept.refl rb w1.heap.size w1).then (below_drewN (Below.refl w1.heap.size w1) nq) (Nat.le_refl _))
  have r2' : Hid (Row (w1.drewN nq) g2 29 zeroPA) := r2.out.kept KQ.out r2.out.lt (by omega)
  have R1' : Hid (RD (w1.drewN nq) rb (.slice (some ⟨bk, off, none⟩) l.length cp) k o) := R1.out.on (below_drewN (Below.refl _ _) _)
  have K1' := Lib.hid (K1.out.thenK KQ.out K1.out.size)
  have E1' := Lib.hid (E1.out.on KQ.out)
  clear r2 R1 K1 E1 c0 c1 c2 z1 z2 hlt1 KQ
  generalize w1.drewN nq = w2 at *
  have r2 := r2'
  have R1 := R1'
  have K1 := K1'
  have E1 := E1'
  clear r2' R1' K1' E1'
  have c0 : w2.cell? ⟨rb, 0, none⟩ = some (.slice (some ⟨bk, off, none⟩) l.length cp) := R1.out.cell 0
  have c1 : w2.cell? ⟨rb, 1, none⟩ = some (.int .i64 ((k : Nat) : Int)) := R1.out.cell 1
  have c2 : w2.cell? ⟨rb, 2, none⟩ = some (.int .i64 ((o : Nat) : Int)) := R1.out.cell 2
  have z1 : w2.frozen? ⟨rb, 1, none⟩ = false := R1.out.froz 1
  have z2 : w2.frozen? ⟨rb, 2, none⟩ = false := R1.out.froz 2
  have hlt1 := R1.out.lt
  clear k0 hKa hKb hbw
  clear hx0 hxc
  have hg2B4 : g2 < w2.heap.size := r2.out.lt
  have hszK := Lib.hid K1.out.size
  go_wp2_with fail
  refine (HC.out _ E1.out R1.out).mono ?_
  rintro e w5 ⟨cs, ev, rfl, hout, hat, hkp⟩; (try dsimp only)
  obtain ⟨y0, y1, y2, y3, y4, y5, y6, ad, nn, cap, rfl⟩ := hout.form
  have r2' : Hid (Row w5 g2 29 zeroPA) := r2.out.kept hkp r2.out.lt (by omega)
  have K1' := Lib.hid (K1.out.thenK hkp K1.out.size)
  have R5 := Lib.hid (r2'.out.setRow_same #[.int .i64 y0, .int .u64 y1, .int .u64 y2, .int .u64 y3, .int .u64 y4, .int .i64 y5, .int .i64 y6, .slice ad nn cap])
  have O5 := Lib.hid ((hout.setRow hg2B4 #[.int .i64 y0, .int .u64 y1, .int .u64 y2, .int .u64 y3, .int .u64 y4, .int .i64 y5, .int .i64 y6, .slice ad nn cap]).le hszK.out)
  have A5 := Lib.hid (hat.setRow (Nat.ne_of_lt hg2l) #[.int .i64 y0, .int .u64 y1, .int .u64 y2, .int .u64 y3, .int .u64 y4, .int .i64 y5, .int .i64 y6, .slice ad nn cap])
  have K5 := Lib.hid (K1'.out.setRow (g := g2) (Or.inl hg2B.out) #[.int .i64 y0, .int .u64 y1, .int .u64 y2, .int .u64 y3, .int .u64 y4, .int .i64 y5, .int .i64 y6, .slice ad nn cap])
  have HR4 := r2'
  obtain ⟨j0, j1, j2, j3, j4, j5, j6, j7, f0, f1, f2, f3, f4, f5, f6, f7, z4⟩ := r2'.out.eight
  clear r2 R1 K1 E1 hout hat hkp c0 c1 c2 z1 z2 hlt1 HC r2'
  go_wp2
  rw [set8 HR4.out]
  exact bodyPost_ret (pret rfl R5.out rfl rfl rfl) rfl ⟨_, _, rfl, O5.out, A5.out, K5.out⟩
set_option maxRecDepth 100000 in
set_option maxHeartbeats 8000000 in
theorem atm_esc {w : World} {rb : Nat} {v : Value} {l : List UInt8} (h : Env w rb v l) (hl : l.length ≤ 1000000000) (k o : Nat) (hk : k < l.length) (hr : RD w rb v k o) (hc : isL l k 92 = true) (R : ER) (HC : Hid (∀ W, Env W rb v l → RD W rb v k o → Calls Try.prog 25 #[.pointer (some ⟨rb, 0, none⟩)] W fun e w' => EndR rb v o W R e w')) :
    Calls Try.prog 21 #[.pointer (some ⟨rb, 0, none⟩)] w fun e w' => EndR rb v o w (R) e w' := by
  have H := Lib.hid h
  have HR := Lib.hid hr
  have hrl := h.rl
  obtain ⟨k1, hk1⟩ : ∃ x, x = k + 1 := ⟨_, rfl⟩
  obtain ⟨k2, hk2⟩ : ∃ x, x = k + 2 := ⟨_, rfl⟩
  have wk : IntKind.i64.wrap ((k : Int) + 1) = (k1 : Int) := by rw [IntKind.wrap_i64]; omega
  have wk2 : IntKind.i64.wrap ((k : Int) + 2) = (k2 : Int) := by rw [IntKind.wrap_i64]; omega
  have HK1 := Lib.hid hk1
  have HK2 := Lib.hid hk2
  have hx0 := isL_lt hc
  have hxc : bv (l.getD k 0) = .int .u8 92 := by rw [hx0.2]; rfl
  clear hc
  clear h hr
  go_enter Try.func21, Try.ntmps21
  go_upto_region 1 with fail
  have K1 : Hid (Kept rb w.heap.size w (w.alloc (.cells zeroPA 29))) := (Kept.refl _ _ _).alloc (Nat.le_refl _) _
  have r2 : Hid (Row (w.alloc (.cells zeroPA 29)) w.heap.size 29 zeroPA) := Row.new w _ _
  have R1 : Hid (RD (w.alloc (.cells zeroPA 29)) rb v k o) := HR.out.on ((Below.refl _ _).alloc (Nat.le_refl _) _)
  have E1 : Hid (Env (w.alloc (.cells zeroPA 29)) rb v l) := H.out.on K1.out
  generalize w.alloc (.cells zeroPA 29) = w1 at *
  obtain ⟨g2, hg2⟩ : ∃ g, g = w.heap.size := ⟨_, rfl⟩
  rw [← hg2]
  rw [← hg2] at r2
  have hg2l : rb < g2 := by rw [hg2]; exact hrl
  have hg2B : Hid (w.heap.size ≤ g2) := Nat.le_of_eq hg2.symm
  clear hg2 H HR hrl hk1 hk2
  obtain ⟨p, cp, rfl, hlc, hcm, hU⟩ := E1.out.bs
  clear hU
  obtain ⟨bk, off, rfl, hbb, hcs⟩ := E1.out.at (by rintro rfl; simp at hk)
  have k0 : w1.cell? ⟨bk, off + k, none⟩ = some (.int .u8 92) := by rw [← hxc]; exact hcs k hx0.1
  have hKa : (0 : Int) ≤ (k : Int) := by omega
  have hKb : (k : Int) < (l.length : Int) := by omega
  have hbw : bk < w1.heap.size := Nat.lt_trans hbb R1.out.lt
  clear hcs
  have c0 : w1.cell? ⟨rb, 0, none⟩ = some (.slice (some ⟨bk, off, none⟩) l.length cp) := R1.out.cell 0
  have c1 : w1.cell? ⟨rb, 1, none⟩ = some (.int .i64 ((k : Nat) : Int)) := R1.out.cell 1
  have c2 : w1.cell? ⟨rb, 2, none⟩ = some (.int .i64 ((o : Nat) : Int)) := R1.out.cell 2
  have z1 : w1.frozen? ⟨rb, 1, none⟩ = false := R1.out.froz 1
  have z2 : w1.frozen? ⟨rb, 2, none⟩ = false := R1.out.froz 2
  have hlt1 := R1.out.lt
  go_quiet (fail)
  have KQ := Lib.hid ((Kept.refl rb w1.heap.size w1).then (below_drewN (Below.refl w1.heap.size w1) nq) (Nat.le_refl _))
  have r2' : Hid (Row (w1.drewN nq) g2 29 zeroPA) := r2.out.kept KQ.out r2.out.lt (by omega)
  have R1' : Hid (RD (w1.drewN nq) rb (.slice (some ⟨bk, off, none⟩) l.length cp) k o) := R1.out.on (below_drewN (Below.refl _ _) _)
  have K1' := Lib.hid (K1.out.thenK KQ.out K1.out.size)
  have E1' := Lib.hid (E1.out.on KQ.out)
  clear r2 R1 K1 E1 c0 c1 c2 z1 z2 hlt1 KQ
  generalize w1.drewN nq = w2 at *
  have r2 := r2'
  have R1 := R1'
  have K1 := K1'
  have E1 := E1'
  clear r2' R1' K1' E1'
  have c0 : w2.cell? ⟨rb, 0, none⟩ = some (.slice (some ⟨bk, off, none⟩) l.length cp) := R1.out.cell 0
  have c1 : w2.cell? ⟨rb, 1, none⟩ = some (.int .i64 ((k : Nat) : Int)) := R1.out.cell 1
  have c2 : w2.cell? ⟨rb, 2, none⟩ = some (.int .i64 ((o : Nat) : Int)) := R1.out.cell 2
  have z1 : w2.frozen? ⟨rb, 1, none⟩ = false := R1.out.froz 1
  have z2 : w2.frozen? ⟨rb, 2, none⟩ = false := R1.out.froz 2
  have hlt1 := R1.out.lt
  clear k0 hKa hKb hbw
  clear hx0 hxc
  have hg2B4 : g2 < w2.heap.size := r2.out.lt
  have hszK := Lib.hid K1.out.size
  go_wp2_with fail
  refine (HC.out _ E1.out R1.out).mono ?_
  rintro e w5 ⟨cs, ev, rfl, hout, hat, hkp⟩; (try dsimp only)
  obtain ⟨y0, y1, y2, y3, y4, y5, y6, ad, nn, cap, rfl⟩ := hout.form
  have r2' : Hid (Row w5 g2 29 zeroPA) := r2.out.kept hkp r2.out.lt (by omega)
  have K1' := Lib.hid (K1.out.thenK hkp K1.out.size)
  have R5 := Lib.hid (r2'.out.setRow_same #[.int .i64 y0, .int .u64 y1, .int .u64 y2, .int .u64 y3, .int .u64 y4, .int .i64 y5, .int .i64 y6, .slice ad nn cap])
  have O5 := Lib.hid ((hout.setRow hg2B4 #[.int .i64 y0, .int .u64 y1, .int .u64 y2, .int .u64 y3, .int .u64 y4, .int .i64 y5, .int .i64 y6, .slice ad nn cap]).le hszK.out)
  have A5 := Lib.hid (hat.setRow (Nat.ne_of_lt hg2l) #[.int .i64 y0, .int .u64 y1, .int .u64 y2, .int .u64 y3, .int .u64 y4, .int .i64 y5, .int .i64 y6, .slice ad nn cap])
  have K5 := Lib.hid (K1'.out.setRow (g := g2) (Or.inl hg2B.out) #[.int .i64 y0, .int .u64 y1, .int .u64 y2, .int .u64 y3, .int .u64 y4, .int .i64 y5, .int .i64 y6, .slice ad nn cap])
  have HR4 := r2'
  obtain ⟨j0, j1, j2, j3, j4, j5, j6, j7, f0, f1, f2, f3, f4, f5, f6, f7, z4⟩ := r2'.out.eight
  clear r2 R1 K1 E1 hout hat hkp c0 c1 c2 z1 z2 hlt1 HC r2'
  go_wp2
  rw [set8 HR4.out]
  exact bodyPost_ret (pret rfl R5.out rfl rfl rfl) rfl ⟨_, _, rfl, O5.out, A5.out, K5.out⟩
set_option maxRecDepth 100000 in
set_option maxHeartbeats 8000000 in
theorem atm_dot {w : World} {rb : Nat} {v : Value} {l : List UInt8} (h : Env w rb v l) (hl : l.length ≤ 1000000000) (k o : Nat) (hk : k < l.length) (hr : RD w rb v k o) (hc : isL l k 46 = true) :
    Calls Try.prog 21 #[.pointer (some ⟨rb, 0, none⟩)] w fun e w' => EndR rb v o w (.ok (setT allP) (k + 1)) e w' := by
  have H := Lib.hid h
  have HR := Lib.hid hr
  have hrl := h.rl
  obtain ⟨k1, hk1⟩ : ∃ x, x = k + 1 := ⟨_, rfl⟩
  obtain ⟨k2, hk2⟩ : ∃ x, x = k + 2 := ⟨_, rfl⟩
  have wk : IntKind.i64.wrap ((k : Int) + 1) = (k1 : Int) := by rw [IntKind.wrap_i64]; omega
  have wk2 : IntKind.i64.wrap ((k : Int) + 2) = (k2 : Int) := by rw [IntKind.wrap_i64]; omega
  have HK1 := Lib.hid hk1
  have HK2 := Lib.hid hk2
  have hx0 := isL_lt hc
  have hxc : bv (l.getD k 0) = .int .u8 46 := by rw [hx0.2]; rfl
  clear hc
  have HNT : Hid (∀ W, Calls Try.prog 27 #[zeroV] W fun e w' => e = .returned (setV allP) ∧ Below W.heap.size W w') := fun W => by have h9 := not_u nonP W; rw [setV_non] at h9; exact h9
  have HST := Lib.hid (stp_u allP)
  clear h hr
  go_enter Try.func21, Try.ntmps21
  go_upto_region 1 with fail
  have K1 : Hid (Kept rb w.heap.size w (w.alloc (.cells zeroPA 29))) := (Kept.refl _ _ _).alloc (Nat.le_refl _) _
  have r2 : Hid (Row (w.alloc (.cells zeroPA 29)) w.heap.size 29 zeroPA) := Row.new w _ _
  have R1 : Hid (RD (w.alloc (.cells zeroPA 29)) rb v k o) := HR.out.on ((Below.refl _ _).alloc (Nat.le_refl _) _)
  have E1 : Hid (Env (w.alloc (.cells zeroPA 29)) rb v l) := H.out.on K1.out
  generalize w.alloc (.cells zeroPA 29) = w1 at *
  obtain ⟨g2, hg2⟩ : ∃ g, g = w.heap.size := ⟨_, rfl⟩
  rw [← hg2]
  rw [← hg2] at r2
  have hg2l : rb < g2 := by rw [hg2]; exact hrl
  have hg2B : Hid (w.heap.size ≤ g2) := Nat.le_of_eq hg2.symm
  clear hg2 H HR hrl hk1 hk2
  obtain ⟨p, cp, rfl, hlc, hcm, hU⟩ := E1.out.bs
  clear hU
  obtain ⟨bk, off, rfl, hbb, hcs⟩ := E1.out.at (by rintro rfl; simp at hk)
  have k0 : w1.cell? ⟨bk, off + k, none⟩ = some (.int .u8 46) := by rw [← hxc]; exact hcs k hx0.1
  have hKa : (0 : Int) ≤ (k : Int) := by omega
  have hKb : (k : Int) < (l.length : Int) := by omega
  have hbw : bk < w1.heap.size := Nat.lt_trans hbb R1.out.lt
  clear hcs
  have c0 : w1.cell? ⟨rb, 0, none⟩ = some (.slice (some ⟨bk, off, none⟩) l.length cp) := R1.out.cell 0
  have c1 : w1.cell? ⟨rb, 1, none⟩ = some (.int .i64 ((k : Nat) : Int)) := R1.out.cell 1
  have c2 : w1.cell? ⟨rb, 2, none⟩ = some (.int .i64 ((o : Nat) : Int)) := R1.out.cell 2
  have z1 : w1.frozen? ⟨rb, 1, none⟩ = false := R1.out.froz 1
  have z2 : w1.frozen? ⟨rb, 2, none⟩ = false := R1.out.froz 2
  have hlt1 := R1.out.lt
  go_quiet (fail)
  have KQ := Lib.hid ((Kept.refl rb w1.heap.size w1).then (below_drewN (Below.refl w1.heap.size w1) nq) (Nat.le_refl _))
  have r2' : Hid (Row (w1.drewN nq) g2 29 zeroPA) := r2.out.kept KQ.out r2.out.lt (by omega)
  have R1' : Hid (RD (w1.drewN nq) rb (.slice (some ⟨bk, off, none⟩) l.length cp) k o) := R1.out.on (below_drewN (Below.refl _ _) _)
  have K1' := Lib.hid (K1.out.thenK KQ.out K1.out.size)
  have E1' := Lib.hid (E1.out.on KQ.out)
  clear r2 R1 K1 E1 c0 c1 c2 z1 z2 hlt1 KQ
  generalize w1.drewN nq = w2 at *
  have r2 := r2'
  have R1 := R1'
  have K1 := K1'
  have E1 := E1'
  clear r2' R1' K1' E1'
  have c0 : w2.cell? ⟨rb, 0, none⟩ = some (.slice (some ⟨bk, off, none⟩) l.length cp) := R1.out.cell 0
  have c1 : w2.cell? ⟨rb, 1, none⟩ = some (.int .i64 ((k : Nat) : Int)) := R1.out.cell 1
  have c2 : w2.cell? ⟨rb, 2, none⟩ = some (.int .i64 ((o : Nat) : Int)) := R1.out.cell 2
  have z1 : w2.frozen? ⟨rb, 1, none⟩ = false := R1.out.froz 1
  have z2 : w2.frozen? ⟨rb, 2, none⟩ = false := R1.out.froz 2
  have hlt1 := R1.out.lt
  clear k0 hKa hKb hbw
  clear hx0 hxc
  go_upto_region 16 with fail
  have r2' : Hid (Row (w2.setCell ⟨rb, 1, none⟩ (.int .i64 (k1 : Int))) g2 29 zeroPA) := r2.out.far (by simp; omega) _
  have R1' : Hid (RD (w2.setCell ⟨rb, 1, none⟩ (.int .i64 (k1 : Int))) rb (.slice (some ⟨bk, off, none⟩) l.length cp) k1 o) := R1.out.set 1 _
  have K1' := Lib.hid (K1.out.setCell (p := ⟨rb, 1, none⟩) (Or.inr rfl) (.int .i64 (k1 : Int)))
  have E1' := Lib.hid (E1.out.on ((Kept.refl rb w2.heap.size w2).setCell (p := ⟨rb, 1, none⟩) (Or.inr rfl) (.int .i64 (k1 : Int))))
  clear r2 R1 K1 E1 c0 c1 c2 z1 z2 hlt1
  generalize w2.setCell ⟨rb, 1, none⟩ (.int .i64 (k1 : Int)) = w4 at *
  have r2 := r2'
  have R1 := R1'
  have K1 := K1'
  have E1 := E1'
  clear r2' R1' K1' E1'
  go_wp2_with fail
  refine (HNT.out _).mono ?_
  rintro e w5 ⟨rfl, hb⟩; (try dsimp only)
  have r2' := Lib.hid (r2.out.on hb)
  have R1' : Hid (RD w5 rb (.slice (some ⟨bk, off, none⟩) l.length cp) k1 o) := R1.out.on hb
  have K1' := Lib.hid (K1.out.then hb K1.out.size)
  have E1' := Lib.hid (E1.out.on (Kept.of hb))
  clear r2 R1 K1 E1 hb
  have r2 := r2'
  have R1 := R1'
  have K1 := K1'
  have E1 := E1'
  clear r2' R1' K1' E1'
  go_wp2_with fail
  refine (HST.out _).mono ?_
  rintro e w6 ⟨rfl, hb⟩; (try dsimp only)
  have r2' := Lib.hid (r2.out.on hb)
  have R1' : Hid (RD w6 rb (.slice (some ⟨bk, off, none⟩) l.length cp) k1 o) := R1.out.on hb
  have K1' := Lib.hid (K1.out.then hb K1.out.size)
  have E1' := Lib.hid (E1.out.on (Kept.of hb))
  clear r2 R1 K1 E1 hb
  have r2 := r2'
  have R1 := R1'
  have K1 := K1'
  have E1 := E1'
  clear r2' R1' K1' E1'
  have HR4 := r2
  obtain ⟨j0, j1, j2, j3, j4, j5, j6, j7, f0, f1, f2, f3, f4, f5, f6, f7, z4⟩ := r2.out.eight
  have R5 := Lib.hid (r2.out.setRow_same (partA 1 allP 0 0 (.slice none 0 0)))
  have P5 : Hid (PVal (w6.setRow g2 (partA 1 allP 0 0 (.slice none 0 0))) w.heap.size (partA 1 allP 0 0 (.slice none 0 0)) (setT allP)) := PVal.leaf _ _ _ _ _ _
  have D5 : Hid (RD (w6.setRow g2 (partA 1 allP 0 0 (.slice none 0 0))) rb (.slice (some ⟨bk, off, none⟩) l.length cp) (k1) o) := R1.out.setRow (by omega) _
  have K5 : Hid (Kept rb w.heap.size w (w6.setRow g2 (partA 1 allP 0 0 (.slice none 0 0)))) := K1.out.setRow (Or.inl hg2B.out) _
  clear r2 R1 K1 E1
  go_wp2
  rw [set8 HR4.out]
  exact bodyPost_ret (pret rfl R5.out rfl rfl rfl) rfl ⟨(partA 1 allP 0 0 (.slice none 0 0)), _, rfl, ⟨rfl, P5.out⟩, by have h9 := D5.out; rw [HK1.out] at h9; exact h9, K5.out⟩
set_option maxRecDepth 100000 in
set_option maxHeartbeats 8000000 in
theorem atm_beg {w : World} {rb : Nat} {v : Value} {l : List UInt8} (h : Env w rb v l) (hl : l.length ≤ 1000000000) (k o : Nat) (hk : k < l.length) (hr : RD w rb v k o) (hc : isL l k 94 = true) :
    Calls Try.prog 21 #[.pointer (some ⟨rb, 0, none⟩)] w fun e w' => EndR rb v o w (.ok (.node 5 nonP 0 0 []) (k + 1)) e w' := by
  have H := Lib.hid h
  have HR := Lib.hid hr
  have hrl := h.rl
  obtain ⟨k1, hk1⟩ : ∃ x, x = k + 1 := ⟨_, rfl⟩
  obtain ⟨k2, hk2⟩ : ∃ x, x = k + 2 := ⟨_, rfl⟩
  have wk : IntKind.i64.wrap ((k : Int) + 1) = (k1 : Int) := by rw [IntKind.wrap_i64]; omega
  have wk2 : IntKind.i64.wrap ((k : Int) + 2) = (k2 : Int) := by rw [IntKind.wrap_i64]; omega
  have HK1 := Lib.hid hk1
  have HK2 := Lib.hid hk2
  have hx0 := isL_lt hc
  have hxc : bv (l.getD k 0) = .int .u8 94 := by rw [hx0.2]; rfl
  clear hc
  clear h hr
  go_enter Try.func21, Try.ntmps21
  go_upto_region 1 with fail
  have K1 : Hid (Kept rb w.heap.size w (w.alloc (.cells zeroPA 29))) := (Kept.refl _ _ _).alloc (Nat.le_refl _) _
  have r2 : Hid (Row (w.alloc (.cells zeroPA 29)) w.heap.size 29 zeroPA) := Row.new w _ _
  have R1 : Hid (RD (w.alloc (.cells zeroPA 29)) rb v k o) := HR.out.on ((Below.refl _ _).alloc (Nat.le_refl _) _)
  have E1 : Hid (Env (w.alloc (.cells zeroPA 29)) rb v l) := H.out.on K1.out
  generalize w.alloc (.cells zeroPA 29) = w1 at *
  obtain ⟨g2, hg2⟩ : ∃ g, g = w.heap.size := ⟨_, rfl⟩
  rw [← hg2]
  rw [← hg2] at r2
  have hg2l : rb < g2 := by rw [hg2]; exact hrl
  have hg2B : Hid (w.heap.size ≤ g2) := Nat.le_of_eq hg2.symm
  clear hg2 H HR hrl hk1 hk2
  obtain ⟨p, cp, rfl, hlc, hcm, hU⟩ := E1.out.bs
  clear hU
  obtain ⟨bk, off, rfl, hbb, hcs⟩ := E1.out.at (by rintro rfl; simp at hk)
  have k0 : w1.cell? ⟨bk, off + k, none⟩ = some (.int .u8 94) := by rw [← hxc]; exact hcs k hx0.1
  have hKa : (0 : Int) ≤ (k : Int) := by omega
  have hKb : (k : Int) < (l.length : Int) := by omega
  have hbw : bk < w1.heap.size := Nat.lt_trans hbb R1.out.lt
  clear hcs
  have c0 : w1.cell? ⟨rb, 0, none⟩ = some (.slice (some ⟨bk, off, none⟩) l.length cp) := R1.out.cell 0
  have c1 : w1.cell? ⟨rb, 1, none⟩ = some (.int .i64 ((k : Nat) : Int)) := R1.out.cell 1
  have c2 : w1.cell? ⟨rb, 2, none⟩ = some (.int .i64 ((o : Nat) : Int)) := R1.out.cell 2
  have z1 : w1.frozen? ⟨rb, 1, none⟩ = false := R1.out.froz 1
  have z2 : w1.frozen? ⟨rb, 2, none⟩ = false := R1.out.froz 2
  have hlt1 := R1.out.lt
  go_quiet (fail)
  have KQ := Lib.hid ((Kept.refl rb w1.heap.size w1).then (below_drewN (Below.refl w1.heap.size w1) nq) (Nat.le_refl _))
  have r2' : Hid (Row (w1.drewN nq) g2 29 zeroPA) := r2.out.kept KQ.out r2.out.lt (by omega)
  have R1' : Hid (RD (w1.drewN nq) rb (.slice (some ⟨bk, off, none⟩) l.length cp) k o) := R1.out.on (below_drewN (Below.refl _ _) _)
  have K1' := Lib.hid (K1.out.thenK KQ.out K1.out.size)
  have E1' := Lib.hid (E1.out.on KQ.out)
  clear r2 R1 K1 E1 c0 c1 c2 z1 z2 hlt1 KQ
  generalize w1.drewN nq = w2 at *
  have r2 := r2'
  have R1 := R1'
  have K1 := K1'
  have E1 := E1'
  clear r2' R1' K1' E1'
  have c0 : w2.cell? ⟨rb, 0, none⟩ = some (.slice (some ⟨bk, off, none⟩) l.length cp) := R1.out.cell 0
  have c1 : w2.cell? ⟨rb, 1, none⟩ = some (.int .i64 ((k : Nat) : Int)) := R1.out.cell 1
  have c2 : w2.cell? ⟨rb, 2, none⟩ = some (.int .i64 ((o : Nat) : Int)) := R1.out.cell 2
  have z1 : w2.frozen? ⟨rb, 1, none⟩ = false := R1.out.froz 1
  have z2 : w2.frozen? ⟨rb, 2, none⟩ = false := R1.out.froz 2
  have hlt1 := R1.out.lt
  clear k0 hKa hKb hbw
  clear hx0 hxc
  go_upto_region 18 with fail
  have r2' : Hid (Row (w2.setCell ⟨rb, 1, none⟩ (.int .i64 (k1 : Int))) g2 29 zeroPA) := r2.out.far (by simp; omega) _
  have R1' : Hid (RD (w2.setCell ⟨rb, 1, none⟩ (.int .i64 (k1 : Int))) rb (.slice (some ⟨bk, off, none⟩) l.length cp) k1 o) := R1.out.set 1 _
  have K1' := Lib.hid (K1.out.setCell (p := ⟨rb, 1, none⟩) (Or.inr rfl) (.int .i64 (k1 : Int)))
  have E1' := Lib.hid (E1.out.on ((Kept.refl rb w2.heap.size w2).setCell (p := ⟨rb, 1, none⟩) (Or.inr rfl) (.int .i64 (k1 : Int))))
  clear r2 R1 K1 E1 c0 c1 c2 z1 z2 hlt1
  generalize w2.setCell ⟨rb, 1, none⟩ (.int .i64 (k1 : Int)) = w4 at *
  have r2 := r2'
  have R1 := R1'
  have K1 := K1'
  have E1 := E1'
  clear r2' R1' K1' E1'
  have HR4 := r2
  obtain ⟨j0, j1, j2, j3, j4, j5, j6, j7, f0, f1, f2, f3, f4, f5, f6, f7, z4⟩ := r2.out.eight
  have R5 := Lib.hid (r2.out.setRow_same #[.int .i64 5, .int .u64 0, .int .u64 0, .int .u64 0, .int .u64 0, .int .i64 0, .int .i64 0, .slice none 0 0])
  have P5 : Hid (PVal (w4.setRow g2 #[.int .i64 5, .int .u64 0, .int .u64 0, .int .u64 0, .int .u64 0, .int .i64 0, .int .i64 0, .slice none 0 0]) w.heap.size #[.int .i64 5, .int .u64 0, .int .u64 0, .int .u64 0, .int .u64 0, .int .i64 0, .int .i64 0, .slice none 0 0] (.node 5 nonP 0 0 [])) := by have h9 := PVal.leaf (w4.setRow g2 #[.int .i64 5, .int .u64 0, .int .u64 0, .int .u64 0, .int .u64 0, .int .i64 0, .int .i64 0, .slice none 0 0]) w.heap.size 5 nonP 0 0; rw [zero_setp] at h9; exact h9
  have D5 : Hid (RD (w4.setRow g2 #[.int .i64 5, .int .u64 0, .int .u64 0, .int .u64 0, .int .u64 0, .int .i64 0, .int .i64 0, .slice none 0 0]) rb (.slice (some ⟨bk, off, none⟩) l.length cp) (k1) o) := R1.out.setRow (by omega) _
  have K5 : Hid (Kept rb w.heap.size w (w4.setRow g2 #[.int .i64 5, .int .u64 0, .int .u64 0, .int .u64 0, .int .u64 0, .int .i64 0, .int .i64 0, .slice none 0 0])) := K1.out.setRow (Or.inl hg2B.out) _
  clear r2 R1 K1 E1
  go_wp2
  rw [set8 HR4.out]
  exact bodyPost_ret (pret rfl R5.out rfl rfl rfl) rfl ⟨#[.int .i64 5, .int .u64 0, .int .u64 0, .int .u64 0, .int .u64 0, .int .i64 0, .int .i64 0, .slice none 0 0], _, rfl, ⟨rfl, P5.out⟩, by have h9 := D5.out; rw [HK1.out] at h9; exact h9, K5.out⟩
set_option maxRecDepth 100000 in
set_option maxHeartbeats 8000000 in
theorem atm_end {w : World} {rb : Nat} {v : Value} {l : List UInt8} (h : Env w rb v l) (hl : l.length ≤ 1000000000) (k o : Nat) (hk : k < l.length) (hr : RD w rb v k o) (hc : isL l k 36 = true) :
    Calls Try.prog 21 #[.pointer (some ⟨rb, 0, none⟩)] w fun e w' => EndR rb v o w (.ok (.node 6 nonP 0 0 []) (k + 1)) e w' := by
  have H := Lib.hid h
  have HR := Lib.hid hr
  have hrl := h.rl
  obtain ⟨k1, hk1⟩ : ∃ x, x = k + 1 := ⟨_, rfl⟩
  obtain ⟨k2, hk2⟩ : ∃ x, x = k + 2 := ⟨_, rfl⟩
  have wk : IntKind.i64.wrap ((k : Int) + 1) = (k1 : Int) := by rw [IntKind.wrap_i64]; omega
  have wk2 : IntKind.i64.wrap ((k : Int) + 2) = (k2 : Int) := by rw [IntKind.wrap_i64]; omega
  have HK1 := Lib.hid hk1
  have HK2 := Lib.hid hk2
  have hx0 := isL_lt hc
  have hxc : bv (l.getD k 0) = .int .u8 36 := by rw [hx0.2]; rfl
  clear hc
  clear h hr
  go_enter Try.func21, Try.ntmps21
  go_upto_region 1 with fail
  have K1 : Hid (Kept rb w.heap.size w (w.alloc (.cells zeroPA 29))) := (Kept.refl _ _ _).alloc (Nat.le_refl _) _
  have r2 : Hid (Row (w.alloc (.cells zeroPA 29)) w.heap.size 29 zeroPA) := Row.new w _ _
  have R1 : Hid (RD (w.alloc (.cells zeroPA 29)) rb v k o) := HR.out.on ((Below.refl _ _).alloc (Nat.le_refl _) _)
  have E1 : Hid (Env (w.alloc (.cells zeroPA 29)) rb v l) := H.out.on K1.out
  generalize w.alloc (.cells zeroPA 29) = w1 at *
  obtain ⟨g2, hg2⟩ : ∃ g, g = w.heap.size := ⟨_, rfl⟩
  rw [← hg2]
  rw [← hg2] at r2
  have hg2l : rb < g2 := by rw [hg2]; exact hrl
  have hg2B : Hid (w.heap.size ≤ g2) := Nat.le_of_eq hg2.symm
  clear hg2 H HR hrl hk1 hk2
  obtain ⟨p, cp, rfl, hlc, hcm, hU⟩ := E1.out.bs
  clear hU
  obtain ⟨bk, off, rfl, hbb, hcs⟩ := E1.out.at (by rintro rfl; simp at hk)
  have k0 : w1.cell? ⟨bk, off + k, none⟩ = some (.int .u8 36) := by rw [← hxc]; exact hcs k hx0.1
  have hKa : (0 : Int) ≤ (k : Int) := by omega
  have hKb : (k : Int) < (l.length : Int) := by omega
  have hbw : bk < w1.heap.size := Nat.lt_trans hbb R1.out.lt
  clear hcs
  have c0 : w1.cell? ⟨rb, 0, none⟩ = some (.slice (some ⟨bk, off, none⟩) l.length cp) := R1.out.cell 0
  have c1 : w1.cell? ⟨rb, 1, none⟩ = some (.int .i64 ((k : Nat) : Int)) := R1.out.cell 1
  have c2 : w1.cell? ⟨rb, 2, none⟩ = some (.int .i64 ((o : Nat) : Int)) := R1.out.cell 2
  have z1 : w1.frozen? ⟨rb, 1, none⟩ = false := R1.out.froz 1
  have z2 : w1.frozen? ⟨rb, 2, none⟩ = false := R1.out.froz 2
  have hlt1 := R1.out.lt
  go_quiet (fail)
  have KQ := Lib.hid ((Kept.refl rb w1.heap.size w1).then (below_drewN (Below.refl w1.heap.size w1) nq) (Nat.le_refl _))
  have r2' : Hid (Row (w1.drewN nq) g2 29 zeroPA) := r2.out.kept KQ.out r2.out.lt (by omega)
  have R1' : Hid (RD (w1.drewN nq) rb (.slice (some ⟨bk, off, none⟩) l.length cp) k o) := R1.out.on (below_drewN (Below.refl _ _) _)
  have K1' := Lib.hid (K1.out.thenK KQ.out K1.out.size)
  have E1' := Lib.hid (E1.out.on KQ.out)
  clear r2 R1 K1 E1 c0 c1 c2 z1 z2 hlt1 KQ
  generalize w1.drewN nq = w2 at *
  have r2 := r2'
  have R1 := R1'
  have K1 := K1'
  have E1 := E1'
  clear r2' R1' K1' E1'
  have c0 : w2.cell? ⟨rb, 0, none⟩ = some (.slice (some ⟨bk, off, none⟩) l.length cp) := R1.out.cell 0
  have c1 : w2.cell? ⟨rb, 1, none⟩ = some (.int .i64 ((k : Nat) : Int)) := R1.out.cell 1
  have c2 : w2.cell? ⟨rb, 2, none⟩ = some (.int .i64 ((o : Nat) : Int)) := R1.out.cell 2
  have z1 : w2.frozen? ⟨rb, 1, none⟩ = false := R1.out.froz 1
  have z2 : w2.frozen? ⟨rb, 2, none⟩ = false := R1.out.froz 2
  have hlt1 := R1.out.lt
  clear k0 hKa hKb hbw
  clear hx0 hxc
  go_upto_region 20 with fail
  have r2' : Hid (Row (w2.setCell ⟨rb, 1, none⟩ (.int .i64 (k1 : Int))) g2 29 zeroPA) := r2.out.far (by simp; omega) _
  have R1' : Hid (RD (w2.setCell ⟨rb, 1, none⟩ (.int .i64 (k1 : Int))) rb (.slice (some ⟨bk, off, none⟩) l.length cp) k1 o) := R1.out.set 1 _
  have K1' := Lib.hid (K1.out.setCell (p := ⟨rb, 1, none⟩) (Or.inr rfl) (.int .i64 (k1 : Int)))
  have E1' := Lib.hid (E1.out.on ((Kept.refl rb w2.heap.size w2).setCell (p := ⟨rb, 1, none⟩) (Or.inr rfl) (.int .i64 (k1 : Int))))
  clear r2 R1 K1 E1 c0 c1 c2 z1 z2 hlt1
  generalize w2.setCell ⟨rb, 1, none⟩ (.int .i64 (k1 : Int)) = w4 at *
  have r2 := r2'
  have R1 := R1'
  have K1 := K1'
  have E1 := E1'
  clear r2' R1' K1' E1'
  have HR4 := r2
  obtain ⟨j0, j1, j2, j3, j4, j5, j6, j7, f0, f1, f2, f3, f4, f5, f6, f7, z4⟩ := r2.out.eight
  have R5 := Lib.hid (r2.out.setRow_same #[.int .i64 6, .int .u64 0, .int .u64 0, .int .u64 0, .int .u64 0, .int .i64 0, .int .i64 0, .slice none 0 0])
  have P5 : Hid (PVal (w4.setRow g2 #[.int .i64 6, .int .u64 0, .int .u64 0, .int .u64 0, .int .u64 0, .int .i64 0, .int .i64 0, .slice none 0 0]) w.heap.size #[.int .i64 6, .int .u64 0, .int .u64 0, .int .u64 0, .int .u64 0, .int .i64 0, .int .i64 0, .slice none 0 0] (.node 6 nonP 0 0 [])) := by have h9 := PVal.leaf (w4.setRow g2 #[.int .i64 6, .int .u64 0, .int .u64 0, .int .u64 0, .int .u64 0, .int .i64 0, .int .i64 0, .slice none 0 0]) w.heap.size 6 nonP 0 0; rw [zero_setp] at h9; exact h9
  have D5 : Hid (RD (w4.setRow g2 #[.int .i64 6, .int .u64 0, .int .u64 0, .int .u64 0, .int .u64 0, .int .i64 0, .int .i64 0, .slice none 0 0]) rb (.slice (some ⟨bk, off, none⟩) l.length cp) (k1) o) := R1.out.setRow (by omega) _
  have K5 : Hid (Kept rb w.heap.size w (w4.setRow g2 #[.int .i64 6, .int .u64 0, .int .u64 0, .int .u64 0, .int .u64 0, .int .i64 0, .int .i64 0, .slice none 0 0])) := K1.out.setRow (Or.inl hg2B.out) _
  clear r2 R1 K1 E1
  go_wp2
  rw [set8 HR4.out]
  exact bodyPost_ret (pret rfl R5.out rfl rfl rfl) rfl ⟨#[.int .i64 6, .int .u64 0, .int .u64 0, .int .u64 0, .int .u64 0, .int .i64 0, .int .i64 0, .slice none 0 0], _, rfl, ⟨rfl, P5.out⟩, by have h9 := D5.out; rw [HK1.out] at h9; exact h9, K5.out⟩
set_option maxRecDepth 100000 in
set_option maxHeartbeats 8000000 in
theorem atm_one {w : World} {rb : Nat} {v : Value} {l : List UInt8} (h : Env w rb v l) (hl : l.length ≤ 1000000000) (k o : Nat) (hk : k < l.length) (hr : RD w rb v k o) (h42 : isL l k 42 = false) (h43 : isL l k 43 = false) (h63 : isL l k 63 = false) (h40 : isL l k 40 = false) (h91 : isL l k 91 = false) (h92 : isL l k 92 = false) (h46 : isL l k 46 = false) (h94 : isL l k 94 = false) (h36 : isL l k 36 = false) :
    Calls Try.prog 21 #[.pointer (some ⟨rb, 0, none⟩)] w fun e w' => EndR rb v o w (.ok (setT (rngP (l.getD k 0).toNat (l.getD k 0).toNat)) (k + 1)) e w' := by
  have H := Lib.hid h
  have HR := Lib.hid hr
  have hrl := h.rl
  obtain ⟨k1, hk1⟩ : ∃ x, x = k + 1 := ⟨_, rfl⟩
  obtain ⟨k2, hk2⟩ : ∃ x, x = k + 2 := ⟨_, rfl⟩
  have wk : IntKind.i64.wrap ((k : Int) + 1) = (k1 : Int) := by rw [IntKind.wrap_i64]; omega
  have wk2 : IntKind.i64.wrap ((k : Int) + 2) = (k2 : Int) := by rw [IntKind.wrap_i64]; omega
  have HK1 := Lib.hid hk1
  have HK2 := Lib.hid hk2
  have s42 := isL_eq hk 42 42 rfl
  rw [h42] at s42
  have s43 := isL_eq hk 43 43 rfl
  rw [h43] at s43
  have s63 := isL_eq hk 63 63 rfl
  rw [h63] at s63
  have s40 := isL_eq hk 40 40 rfl
  rw [h40] at s40
  have s91 := isL_eq hk 91 91 rfl
  rw [h91] at s91
  have s92 := isL_eq hk 92 92 rfl
  rw [h92] at s92
  have s46 := isL_eq hk 46 46 rfl
  rw [h46] at s46
  have s94 := isL_eq hk 94 94 rfl
  rw [h94] at s94
  have s36 := isL_eq hk 36 36 rfl
  rw [h36] at s36
  have HRG := Lib.hid (range_u (l.getD k 0) (l.getD k 0))
  have HST := Lib.hid (stp_u (rngP (l.getD k 0).toNat (l.getD k 0).toNat))
  have hxv : bv (l.getD k 0) = .int .u8 (((l.getD k 0).toNat : Nat) : Int) := rfl
  rw [hxv] at HRG
  obtain ⟨x, hx⟩ : ∃ x, x = (l.getD k 0).toNat := ⟨_, rfl⟩
  rw [← hx] at HRG HST hxv s42 s43 s63 s40 s91 s92 s46 s94 s36
  rw [← hx]
  clear hx h42 h43 h63 h40 h91 h92 h46 h94 h36
  clear h hr
  go_enter Try.func21, Try.ntmps21
  go_upto_region 1 with fail
  have K1 : Hid (Kept rb w.heap.size w (w.alloc (.cells zeroPA 29))) := (Kept.refl _ _ _).alloc (Nat.le_refl _) _
  have r2 : Hid (Row (w.alloc (.cells zeroPA 29)) w.heap.size 29 zeroPA) := Row.new w _ _
  have R1 : Hid (RD (w.alloc (.cells zeroPA 29)) rb v k o) := HR.out.on ((Below.refl _ _).alloc (Nat.le_refl _) _)
  have E1 : Hid (Env (w.alloc (.cells zeroPA 29)) rb v l) := H.out.on K1.out
  generalize w.alloc (.cells zeroPA 29) = w1 at *
  obtain ⟨g2, hg2⟩ : ∃ g, g = w.heap.size := ⟨_, rfl⟩
  rw [← hg2]
  rw [← hg2] at r2
  have hg2l : rb < g2 := by rw [hg2]; exact hrl
  have hg2B : Hid (w.heap.size ≤ g2) := Nat.le_of_eq hg2.symm
  clear hg2 H HR hrl hk1 hk2
  obtain ⟨p, cp, rfl, hlc, hcm, hU⟩ := E1.out.bs
  clear hU
  obtain ⟨bk, off, rfl, hbb, hcs⟩ := E1.out.at (by rintro rfl; simp at hk)
  have k0 : w1.cell? ⟨bk, off + k, none⟩ = some (.int .u8 (x : Int)) := by rw [← hxv]; exact hcs k hk
  have hKa : (0 : Int) ≤ (k : Int) := by omega
  have hKb : (k : Int) < (l.length : Int) := by omega
  have hbw : bk < w1.heap.size := Nat.lt_trans hbb R1.out.lt
  clear hcs
  have c0 : w1.cell? ⟨rb, 0, none⟩ = some (.slice (some ⟨bk, off, none⟩) l.length cp) := R1.out.cell 0
  have c1 : w1.cell? ⟨rb, 1, none⟩ = some (.int .i64 ((k : Nat) : Int)) := R1.out.cell 1
  have c2 : w1.cell? ⟨rb, 2, none⟩ = some (.int .i64 ((o : Nat) : Int)) := R1.out.cell 2
  have z1 : w1.frozen? ⟨rb, 1, none⟩ = false := R1.out.froz 1
  have z2 : w1.frozen? ⟨rb, 2, none⟩ = false := R1.out.froz 2
  have hlt1 := R1.out.lt
  go_quiet (fail)
  have KQ := Lib.hid ((Kept.refl rb w1.heap.size w1).then (below_drewN (Below.refl w1.heap.size w1) nq) (Nat.le_refl _))
  have r2' : Hid (Row (w1.drewN nq) g2 29 zeroPA) := r2.out.kept KQ.out r2.out.lt (by omega)
  have R1' : Hid (RD (w1.drewN nq) rb (.slice (some ⟨bk, off, none⟩) l.length cp) k o) := R1.out.on (below_drewN (Below.refl _ _) _)
  have K1' := Lib.hid (K1.out.thenK KQ.out K1.out.size)
  have E1' := Lib.hid (E1.out.on KQ.out)
  clear r2 R1 K1 E1 c0 c1 c2 z1 z2 hlt1 KQ
  generalize w1.drewN nq = w2 at *
  have r2 := r2'
  have R1 := R1'
  have K1 := K1'
  have E1 := E1'
  clear r2' R1' K1' E1'
  have c0 : w2.cell? ⟨rb, 0, none⟩ = some (.slice (some ⟨bk, off, none⟩) l.length cp) := R1.out.cell 0
  have c1 : w2.cell? ⟨rb, 1, none⟩ = some (.int .i64 ((k : Nat) : Int)) := R1.out.cell 1
  have c2 : w2.cell? ⟨rb, 2, none⟩ = some (.int .i64 ((o : Nat) : Int)) := R1.out.cell 2
  have z1 : w2.frozen? ⟨rb, 1, none⟩ = false := R1.out.froz 1
  have z2 : w2.frozen? ⟨rb, 2, none⟩ = false := R1.out.froz 2
  have hlt1 := R1.out.lt
  clear k0 hKa hKb hbw
  clear hxv
  go_upto_region 21 with fail
  have r2' : Hid (Row (w2.setCell ⟨rb, 1, none⟩ (.int .i64 (k1 : Int))) g2 29 zeroPA) := r2.out.far (by simp; omega) _
  have R1' : Hid (RD (w2.setCell ⟨rb, 1, none⟩ (.int .i64 (k1 : Int))) rb (.slice (some ⟨bk, off, none⟩) l.length cp) k1 o) := R1.out.set 1 _
  have K1' := Lib.hid (K1.out.setCell (p := ⟨rb, 1, none⟩) (Or.inr rfl) (.int .i64 (k1 : Int)))
  have E1' := Lib.hid (E1.out.on ((Kept.refl rb w2.heap.size w2).setCell (p := ⟨rb, 1, none⟩) (Or.inr rfl) (.int .i64 (k1 : Int))))
  clear r2 R1 K1 E1 c0 c1 c2 z1 z2 hlt1
  generalize w2.setCell ⟨rb, 1, none⟩ (.int .i64 (k1 : Int)) = w4 at *
  have r2 := r2'
  have R1 := R1'
  have K1 := K1'
  have E1 := E1'
  clear r2' R1' K1' E1'
  go_wp2_with fail
  refine (HRG.out _).mono ?_
  rintro e w5 ⟨rfl, hb⟩; (try dsimp only)
  have r2' := Lib.hid (r2.out.on hb)
  have R1' : Hid (RD w5 rb (.slice (some ⟨bk, off, none⟩) l.length cp) k1 o) := R1.out.on hb
  have K1' := Lib.hid (K1.out.then hb K1.out.size)
  have E1' := Lib.hid (E1.out.on (Kept.of hb))
  clear r2 R1 K1 E1 hb
  have r2 := r2'
  have R1 := R1'
  have K1 := K1'
  have E1 := E1'
  clear r2' R1' K1' E1'
  go_wp2_with fail
  refine (HST.out _).mono ?_
  rintro e w6 ⟨rfl, hb⟩; (try dsimp only)
  have r2' := Lib.hid (r2.out.on hb)
  have R1' : Hid (RD w6 rb (.slice (some ⟨bk, off, none⟩) l.length cp) k1 o) := R1.out.on hb
  have K1' := Lib.hid (K1.out.then hb K1.out.size)
  have E1' := Lib.hid (E1.out.on (Kept.of hb))
  clear r2 R1 K1 E1 hb
  have r2 := r2'
  have R1 := R1'
  have K1 := K1'
  have E1 := E1'
  clear r2' R1' K1' E1'
  have HR4 := r2
  obtain ⟨j0, j1, j2, j3, j4, j5, j6, j7, f0, f1, f2, f3, f4, f5, f6, f7, z4⟩ := r2.out.eight
  have R5 := Lib.hid (r2.out.setRow_same (partA 1 (rngP x x) 0 0 (.slice none 0 0)))
  have P5 : Hid (PVal (w6.setRow g2 (partA 1 (rngP x x) 0 0 (.slice none 0 0))) w.heap.size (partA 1 (rngP x x) 0 0 (.slice none 0 0)) (setT (rngP x x))) := PVal.leaf _ _ _ _ _ _
  have D5 : Hid (RD (w6.setRow g2 (partA 1 (rngP x x) 0 0 (.slice none 0 0))) rb (.slice (some ⟨bk, off, none⟩) l.length cp) (k1) o) := R1.out.setRow (by omega) _
  have K5 : Hid (Kept rb w.heap.size w (w6.setRow g2 (partA 1 (rngP x x) 0 0 (.slice none 0 0)))) := K1.out.setRow (Or.inl hg2B.out) _
  clear r2 R1 K1 E1
  go_wp2
  rw [set8 HR4.out]
  exact bodyPost_ret (pret rfl R5.out rfl rfl rfl) rfl ⟨(partA 1 (rngP x x) 0 0 (.slice none 0 0)), _, rfl, ⟨rfl, P5.out⟩, by have h9 := D5.out; rw [HK1.out] at h9; exact h9, K5.out⟩
end Go.Proofs.Ytfmekmbdienbjaa
