/- Layer 4: the contract of expression, by the one of branch. -/
import Derived.Test.YtfmekmbdienbjaaEreF
import Derived.Test.YtfmekmbdienbjaaEreL
import Derived.Test.YtfmekmbdienbjaaEreM
import Derived.BigQuiet
namespace Go.Proofs.Ytfmekmbdienbjaa
set_option linter.unusedSimpArgs false
set_option linter.unusedVariables false
set_option linter.unnecessarySimpa false
open Go.RowKit

set_option maxRecDepth 100000 in
set_option maxHeartbeats 16000000 in
theorem exp_u {w : World} {rb : Nat} {v : Value} {l : List UInt8} (h : Env w rb v l) (hl : l.length ≤ 1000000000) (k o : Nat) (hk : k ≤ l.length) (hr : RD w rb v k o) (R : ER) (hR : RunE l (.exp k o []) R) (HX : Hid (∀ n W R, k ≤ n → n ≤ l.length → RunE l (.bra n o []) R → Env W rb v l → RD W rb v n o → Calls Try.prog 15 #[.pointer (some ⟨rb, 0, none⟩)] W fun e w' => EndR rb v o W R e w')) :
    Calls Try.prog 12 #[.pointer (some ⟨rb, 0, none⟩)] w fun e w' => EndR rb v o w R e w' := by
  have H := Lib.hid h
  have HR := Lib.hid hr
  have hrl := h.rl
  have hrw0 : Hid (rb < w.heap.size) := hrl
  obtain ⟨k1, hk1⟩ : ∃ x, x = k + 1 := ⟨_, rfl⟩
  obtain ⟨k2, hk2⟩ : ∃ x, x = k + 2 := ⟨_, rfl⟩
  have wk : IntKind.i64.wrap ((k : Int) + 1) = (k1 : Int) := by rw [IntKind.wrap_i64]; omega
  have wk2 : IntKind.i64.wrap ((k : Int) + 2) = (k2 : Int) := by rw [IntKind.wrap_i64]; omega
  have HK1 := Lib.hid hk1
  have HK2 := Lib.hid hk2
  have HRR := Lib.hid hR
  clear hR
  clear h hr
  go_enter Try.func12, Try.ntmps12
  go_upto_region 1 with fail
  have K1 : Hid (Kept rb w.heap.size w (w.alloc (.cells zeroPA 29))) := (Kept.refl _ _ _).alloc (Nat.le_refl _) _
  have r2 : Hid (Row (w.alloc (.cells zeroPA 29)) w.heap.size 29 zeroPA) := Row.new w _ _
  have R1 : Hid (RD (w.alloc (.cells zeroPA 29)) rb v k o) := HR.out.on ((Below.refl _ _).alloc (Nat.le_refl _) _)
  have E1 : Hid (Env (w.alloc (.cells zeroPA 29)) rb v l) := H.out.on K1.out
  generalize w.alloc (.cells zeroPA 29) = w1 at *
  obtain ⟨g2, hg2⟩ : ∃ g, g = w.heap.size := ⟨_, rfl⟩
  rw [← hg2]
  rw [← hg2] at r2
  have hg2l : rb < g2 := by rw [hg2]; exact hrl
  have hg2B : Hid (w.heap.size ≤ g2) := Nat.le_of_eq hg2.symm
  clear hg2 H HR hrl hk1 hk2
  obtain ⟨p, cp, rfl, hlc, hcm, hU⟩ := E1.out.bs
  clear hU
  have c0 : w1.cell? ⟨rb, 0, none⟩ = some (.slice p l.length cp) := R1.out.cell 0
  have c1 : w1.cell? ⟨rb, 1, none⟩ = some (.int .i64 ((k : Nat) : Int)) := R1.out.cell 1
  have c2 : w1.cell? ⟨rb, 2, none⟩ = some (.int .i64 ((o : Nat) : Int)) := R1.out.cell 2
  have z1 : w1.frozen? ⟨rb, 1, none⟩ = false := R1.out.froz 1
  have z2 : w1.frozen? ⟨rb, 2, none⟩ = false := R1.out.froz 2
  have hlt1 := R1.out.lt
  clear HK1 HK2 wk wk2 c0 c1 c2 z1 z2 hlt1
  obtain ⟨BB, hBB⟩ : ∃ x, x = w1.heap.size := ⟨_, rfl⟩
  have hB2 : g2 < BB := by rw [hBB]; exact r2.out.lt
  have hBr : rb < BB := by omega
  have hBw : Hid (w.heap.size ≤ BB) := by have := K1.out.size; show _ ≤ _; rw [hBB]; exact this
  have hBz : Hid (BB ≤ w1.heap.size) := Nat.le_of_eq hBB
  clear hBB
  obtain ⟨i0, hi0, hz0, hz1, hz2⟩ := part_parts
  have HI0 := Lib.hid hi0
  have HZ0 := Lib.hid hz0
  have HZ1 := Lib.hid hz1
  have HZ2 := Lib.hid hz2
  clear hi0 hz0 hz1 hz2
  have A0 : Hid (Acc w1 BB (.slice none 0 0) []) := Acc.nil _ _
  go_wp2
  go_loopw [4] (fun t4 wr => ∃ (n : Nat) (acc : List PT), n ≤ l.length ∧ k ≤ n ∧ acc.length ≤ n ∧ Hid (RunE l (.exp n o acc) R) ∧ Hid (Acc wr BB t4 acc) ∧ Hid (Row wr g2 29 zeroPA) ∧ Hid (RD wr rb (.slice p l.length cp) n o) ∧ Hid (Env wr rb (.slice p l.length cp) l) ∧ Hid (Kept rb w.heap.size w wr) ∧ Hid (BB ≤ wr.heap.size)) (fun _ wr => l.length + 1 - atOf wr rb)
  case atStart => exact ⟨k, [], hk, Nat.le_refl _, Nat.zero_le _, HRR, A0, r2, R1, E1, K1, hBz⟩
  case round =>
    clear r2 R1 E1 K1 A0 hBz HRR
    obtain ⟨n, acc, hn, hkn, hac, HRR, A1, r2, R1, E1, K1, Z1⟩ := hrel
    obtain ⟨ad, cap, rfl⟩ := A1.out.val
    have HAT : Hid (atOf wr rb = n) := atOf_rd R1.out
    have HCS := Lib.hid (exp_inv HRR.out)
    clear HRR
    rcases HCS.out with ⟨a, cc, hpc, rfl⟩ | ⟨t, m, hpc, ⟨h124, rfl⟩ | ⟨h124, hR2⟩⟩
    · have HPI := Lib.hid (HX.out n wr _ hkn hn hpc E1.out R1.out)
      clear HCS hpc A1 Z1 HAT
      have c0 : wr.cell? ⟨rb, 0, none⟩ = some (.slice p l.length cp) := R1.out.cell 0
      have c1 : wr.cell? ⟨rb, 1, none⟩ = some (.int .i64 ((n : Nat) : Int)) := R1.out.cell 1
      have c2 : wr.cell? ⟨rb, 2, none⟩ = some (.int .i64 ((o : Nat) : Int)) := R1.out.cell 2
      have z1 : wr.frozen? ⟨rb, 1, none⟩ = false := R1.out.froz 1
      have z2 : wr.frozen? ⟨rb, 2, none⟩ = false := R1.out.froz 2
      have hlt1 := R1.out.lt
      have hg2B4 : g2 < wr.heap.size := r2.out.lt
      go_wp2_with fail
      refine (HPI.out).mono ?_
      rintro e w5 ⟨cs, ev, rfl, hout, hat, hkp⟩; (try dsimp only)
      have r2' : Hid (Row w5 g2 29 zeroPA) := r2.out.kept hkp r2.out.lt (by omega)
      have K1' := Lib.hid (K1.out.thenK hkp K1.out.size)
      have E1' := Lib.hid (E1.out.on hkp)
      have hszK := Lib.hid K1.out.size
      obtain ⟨rfl, b, rfl, hb1, hb2, hb3⟩ := hout
      obtain ⟨n', o', hat⟩ := hat
      have R1' : Hid (RD w5 rb (.slice p l.length cp) n' o') := hat
      have HF3 := Lib.hid hb3
      have hb1' : Hid (w.heap.size ≤ b) := Nat.le_trans hszK.out hb1
      have hb2' := Lib.hid hb2
      clear r2 R1 K1 E1 hat hkp hb3 hb1 hb2 HPI
      go_upto_region 3 with fail
      have r2 : Hid (Row (w5.alloc (.cells zeroPA 29)) g2 29 zeroPA) := r2'.out.alloc _
      have R1 : Hid (RD (w5.alloc (.cells zeroPA 29)) rb (.slice p l.length cp) n' o') := R1'.out.alloc _
      have K1 := Lib.hid (K1'.out.alloc K1'.out.size (.cells zeroPA 29))
      have F1 : Hid (FRow (w5.alloc (.cells zeroPA 29)) b a cc) := HF3.out.alloc _
      clear r2' R1' K1' E1' HF3
      generalize (w5.alloc (.cells zeroPA 29)) = w6 at *
      have HR4 := r2
      obtain ⟨j0, j1, j2, j3, j4, j5, j6, j7, f0, f1, f2, f3, f4, f5, f6, f7, z4⟩ := r2.out.eight
      have R5 := Lib.hid (r2.out.setRow_same zeroPA)
      have hbg2 : Hid (b ≠ g2) := by
        show b ≠ g2
        rintro rfl
        have e := F1.out.symm.trans HR4.out
        simp at e
      have F5 : Hid (FRow (w6.setRow g2 zeroPA) b a cc) := F1.out.setRow hbg2.out _
      have D5 : Hid (RD (w6.setRow g2 zeroPA) rb (.slice p l.length cp) n' o') := R1.out.setRow (by omega) _
      have K5 : Hid (Kept rb w.heap.size w (w6.setRow g2 zeroPA)) := K1.out.setRow (Or.inl hg2B.out) _
      clear r2 R1 K1
      go_wp2
      rw [set8 HR4.out]
      exact bodyPost_ret (pret rfl R5.out rfl rfl rfl) rfl ⟨zeroPA, _, rfl, ⟨rfl, _, rfl, hb1'.out, hb2'.out, F5.out⟩, ⟨n', o', D5.out⟩, K5.out⟩
    · have HPI := Lib.hid (HX.out n wr _ hkn hn hpc E1.out R1.out)
      have hadv := runE_adv hpc _ _ rfl hn
      clear HCS hpc HAT
      have c0 : wr.cell? ⟨rb, 0, none⟩ = some (.slice p l.length cp) := R1.out.cell 0
      have c1 : wr.cell? ⟨rb, 1, none⟩ = some (.int .i64 ((n : Nat) : Int)) := R1.out.cell 1
      have c2 : wr.cell? ⟨rb, 2, none⟩ = some (.int .i64 ((o : Nat) : Int)) := R1.out.cell 2
      have z1 : wr.frozen? ⟨rb, 1, none⟩ = false := R1.out.froz 1
      have z2 : wr.frozen? ⟨rb, 2, none⟩ = false := R1.out.froz 2
      have hlt1 := R1.out.lt
      have hg2B4 : g2 < wr.heap.size := r2.out.lt
      have hnotown : Hid (∀ b, (Value.slice ad acc.length cap).ownBlock = some b → BB ≤ b ∧ b < wr.heap.size) := by
        obtain ⟨xs, hx⟩ := A1.out.owns
        exact fun b hb => hx.lt b hb
      go_wp2_with fail
      refine (HPI.out).mono ?_
      rintro e w5 ⟨cs, ev, rfl, hout, hat, hkp⟩; (try dsimp only)
      obtain ⟨rfl, hp⟩ := hout
      obtain ⟨k', P, a', b', ad', n', cap', rfl⟩ := hp.inv
      have r2' : Hid (Row w5 g2 29 zeroPA) := r2.out.kept hkp r2.out.lt (by omega)
      have R1' : Hid (RD w5 rb (.slice p l.length cp) m o) := hat
      have K1' := Lib.hid (K1.out.thenK hkp K1.out.size)
      have E1' := Lib.hid (E1.out.on hkp)
      have A1' := Lib.hid (A1.out.on hkp hBr)
      have Z1' : Hid (BB ≤ w5.heap.size) := Nat.le_trans Z1.out hkp.size
      have HP : Hid (PValS w5 (fun b => BB ≤ b ∧ some b ≠ (Value.slice ad acc.length cap).ownBlock) (partA k' P a' b' (.slice ad' n' cap')) t) := PValS.imp hp fun b h1 h2 => ⟨Nat.le_trans Z1.out h1, fun h3 => by have := (hnotown.out b h3.symm).2; have : wr.heap.size ≤ b := h1; omega⟩
      clear r2 R1 K1 E1 A1 Z1 hat hkp hp HPI c0 c1 c2 z1 z2 hlt1
      go_upto_region 3 with fail
      have hB : Below w5.heap.size w5 (w5.alloc (.cells (partA k' P a' b' (.slice ad' n' cap')) 29)) := (Below.refl _ _).alloc (Nat.le_refl _) _
      have r2 := Lib.hid (r2'.out.on hB)
      have R1 : Hid (RD (w5.alloc (.cells (partA k' P a' b' (.slice ad' n' cap')) 29)) rb (.slice p l.length cp) m o) := R1'.out.on hB
      have K1 := Lib.hid (K1'.out.then hB K1'.out.size)
      have E1 := Lib.hid (E1'.out.on (Kept.of hB))
      have A1 := Lib.hid (A1'.out.blw hB)
      have Z1 : Hid (BB ≤ (w5.alloc (.cells (partA k' P a' b' (.slice ad' n' cap')) 29)).heap.size) := Nat.le_trans Z1'.out hB.size
      have P1 := Lib.hid (HP.out.blw hB)
      have r5 : Row (w5.alloc (.cells (partA k' P a' b' (.slice ad' n' cap')) 29)) w5.heap.size 29 (partA k' P a' b' (.slice ad' n' cap')) := Row.new w5 _ _
      clear r2' R1' K1' E1' A1' Z1' HP hB
      generalize (w5.alloc (.cells (partA k' P a' b' (.slice ad' n' cap')) 29)) = w6 at *
      obtain ⟨g5, hg5⟩ : ∃ x, x = w5.heap.size := ⟨_, rfl⟩
      rw [← hg5]
      rw [← hg5] at r5
      clear hg5
      obtain ⟨m0, m1, m2, m3, m4, m5, m6, m7, e0, e1, e2, e3, e4, e5, e6, e7, z9⟩ := r5.eight
      clear r5 e0 e1 e2 e3 e4 e5 e6 e7
      have hB : Below w6.heap.size w6 (w6.alloc (.cells (partA k' P a' b' (.slice ad' n' cap')) 29)) := (Below.refl _ _).alloc (Nat.le_refl _) _
      have r2' := Lib.hid (r2.out.on hB)
      have R1' : Hid (RD (w6.alloc (.cells (partA k' P a' b' (.slice ad' n' cap')) 29)) rb (.slice p l.length cp) m o) := R1.out.on hB
      have K1' := Lib.hid (K1.out.then hB K1.out.size)
      have E1' := Lib.hid (E1.out.on (Kept.of hB))
      have A1' := Lib.hid (A1.out.blw hB)
      have Z1' : Hid (BB ≤ (w6.alloc (.cells (partA k' P a' b' (.slice ad' n' cap')) 29)).heap.size) := Nat.le_trans Z1.out hB.size
      have P1' := Lib.hid (P1.out.blw hB)
      have r9 : Row (w6.alloc (.cells (partA k' P a' b' (.slice ad' n' cap')) 29)) w6.heap.size 29 (partA k' P a' b' (.slice ad' n' cap')) := Row.new w6 _ _
      obtain ⟨xs, hxs⟩ := A1'.out.owns
      have HXS := Lib.hid hxs
      have HN : Hid (∀ j u, (partA k' P a' b' (.slice ad' n' cap')).toList[j]? = some u → (w6.alloc (.cells (partA k' P a' b' (.slice ad' n' cap')) 29)).cell? ((⟨w6.heap.size, 0, none⟩ : Addr).add j) = some u) := by
        intro j u hu
        have e : (⟨w6.heap.size, 0, none⟩ : Addr).add j = ⟨w6.heap.size, j, none⟩ := by unfold Addr.add; split <;> simp_all
        rw [e, r9.cell]; rw [Array.getElem?_toList] at hu; exact hu
      have HN1 : Hid (∀ u ∈ (partA k' P a' b' (.slice ad' n' cap')).toList, u.oneCell' = true) := P1'.out.one
      have HM1 : Hid (acc.length + 1 ≤ maxLen) := by show _ ≤ _; simp only [maxLen]; omega
      have HM2 : Hid ((acc.length + 1) * 80 ≤ 140737488355328) := by show _ ≤ _; omega
      clear r2 R1 K1 E1 A1 Z1 P1 r9 hxs hB
      go_wp2_with (at_builtin; refine wpList_append_lies _ rfl (.tmp 16) (.tmp 18) _ rfl BB 29 i0 (.agg zeroPA) 8 80 Try.underlying27 HI0.out HZ0.out HZ1.out HZ2.out rfl (by decide) (.slice ad acc.length cap) acc.length xs rfl HXS.out ⟨w6.heap.size, 0, none⟩ 1 1 (partA k' P a' b' (.slice ad' n' cap')).toList rfl rfl HN.out HN1.out (by decide) HM1.out HM2.out Z1'.out _ rfl ?_; intro g cap2 w9 hown hgrow hat hlt)
      have KG : Kept rb BB (w6.alloc (.cells (partA k' P a' b' (.slice ad' n' cap')) 29)) w9 := (Kept.refl rb BB _).grown hgrow Z1'.out (fun b hb => (hnotown.out b hb).1)
      have hrbn : some rb ≠ (Value.slice ad acc.length cap).ownBlock := fun h3 => by have := (hnotown.out rb h3.symm).1; omega
      have r2 := Lib.hid (r2'.out.kept KG hB2 (by omega))
      have R1 : Hid (RD w9 rb (.slice p l.length cp) m o) := (hgrow.block rb R1'.out.lt hrbn).trans R1'.out
      have K1 := Lib.hid (K1'.out.trans (KG.mono hBw.out))
      have E1 := Lib.hid (E1'.out.blw (KG.below (Nat.le_refl _) (Nat.le_of_lt hBr)))
      have A1 := Lib.hid (A1'.out.push P1'.out HXS.out hown hgrow hat)
      have Z1 : Hid (BB ≤ w9.heap.size) := Nat.le_trans Z1'.out hgrow.size
      have hlen : acc.length + 1 ≤ m + 1 := by have := hadv.1; omega
      clear r2' R1' K1' E1' A1' Z1' P1' HXS HN HN1 HM1 HM2 KG hrbn hown hgrow hat hlt m0 m1 m2 m3 m4 m5 m6 m7 z9 hnotown
      have IA : Hid (∀ (n' : Nat), Calls Try.prog 16 #[(.slice p l.length cp), .int .i64 (m : Int), .int .u8 124] (w9.drewN n') fun e w' => e = .returned (.bool false) ∧ w9.drewN n' = w') := by
        intro n'
        have h9 := eis_u (w := w9.drewN n') (E1.out.on (Kept.of (below_drewN (Below.refl _ _) _))).BS hl m (by have := hadv.2; omega) 124
        rw [h124] at h9; exact h9
      have c0 : w9.cell? ⟨rb, 0, none⟩ = some (.slice p l.length cp) := R1.out.cell 0
      have c1 : w9.cell? ⟨rb, 1, none⟩ = some (.int .i64 ((m : Nat) : Int)) := R1.out.cell 1
      have c2 : w9.cell? ⟨rb, 2, none⟩ = some (.int .i64 ((o : Nat) : Int)) := R1.out.cell 2
      have z1 : w9.frozen? ⟨rb, 1, none⟩ = false := R1.out.froz 1
      have z2 : w9.frozen? ⟨rb, 2, none⟩ = false := R1.out.froz 2
      have hlt1 := R1.out.lt
      go_upto_region 6 with fail
      go_quiet (first | (go_at_call 16; refine Calls.quiet_of_same ((IA.out _).mono fun _ _ ⟨ha, hb⟩ => ⟨ha, hb.symm⟩)))
      have hQ : Below w9.heap.size w9 (w9.drewN nq) := below_drewN (Below.refl _ _) _
      have r2' := Lib.hid (r2.out.on hQ)
      have R1' : Hid (RD (w9.drewN nq) rb (.slice p l.length cp) m o) := R1.out.on hQ
      have K1' := Lib.hid (K1.out.then hQ K1.out.size)
      have E1' := Lib.hid (E1.out.on (Kept.of hQ))
      have A1' := Lib.hid (A1.out.blw hQ)
      have Z1' : Hid (BB ≤ (w9.drewN nq).heap.size) := Nat.le_trans Z1.out (Below.size hQ)
      clear r2 R1 K1 E1 A1 Z1 hQ c0 c1 c2 z1 z2 hlt1
      generalize w9.drewN nq = w10 at *
      have r2 := r2'
      have R1 := R1'
      have K1 := K1'
      have E1 := E1'
      have A1 := A1'
      have Z1 := Z1'
      clear r2' R1' K1' E1' A1' Z1'
      have c0 : w10.cell? ⟨rb, 0, none⟩ = some (.slice p l.length cp) := R1.out.cell 0
      have c1 : w10.cell? ⟨rb, 1, none⟩ = some (.int .i64 ((m : Nat) : Int)) := R1.out.cell 1
      have c2 : w10.cell? ⟨rb, 2, none⟩ = some (.int .i64 ((o : Nat) : Int)) := R1.out.cell 2
      have z1 : w10.frozen? ⟨rb, 1, none⟩ = false := R1.out.froz 1
      have z2 : w10.frozen? ⟨rb, 2, none⟩ = false := R1.out.froz 2
      have hlt1 := R1.out.lt
      clear IA
      have HT := Lib.hid (fun W (hW : Below w10.heap.size w10 W) => tog_u (A1.out.blw hW).sl 3)
      clear A1 Z1
      go_wp2_with fail
      refine (HT.out _ (Below.refl _ _)).mono ?_
      rintro e w11 ⟨cs, rfl, hpv, hb⟩; (try dsimp only)
      obtain ⟨k', P, a', b', ad', n', cap', rfl⟩ := hpv.inv
      have r2' := Lib.hid (r2.out.on hb)
      have R1' : Hid (RD w11 rb (.slice p l.length cp) m o) := R1.out.on hb
      have K1' := Lib.hid (K1.out.then hb K1.out.size)
      have E1' := Lib.hid (E1.out.on (Kept.of hb))
      have P1 : Hid (PValS w11 (Ge BB) (partA k' P a' b' (.slice ad' n' cap')) (together 3 (acc ++ [t]))) := hpv
      clear r2 R1 K1 E1 hpv hb HT
      have r2 := r2'
      have R1 := R1'
      have K1 := K1'
      have E1 := E1'
      clear r2' R1' K1' E1'
      have HR4 := r2
      obtain ⟨j0, j1, j2, j3, j4, j5, j6, j7, f0, f1, f2, f3, f4, f5, f6, f7, z4⟩ := r2.out.eight
      have R5 := Lib.hid (r2.out.setRow_same (partA k' P a' b' (.slice ad' n' cap')))
      have P5 : Hid (PVal (w11.setRow g2 (partA k' P a' b' (.slice ad' n' cap'))) w.heap.size (partA k' P a' b' (.slice ad' n' cap')) (together 3 (acc ++ [t]))) := PVal.le (P1.out.setRow (by show ¬ BB ≤ g2; omega) _) hBw.out
      have D5 : Hid (RD (w11.setRow g2 (partA k' P a' b' (.slice ad' n' cap'))) rb (.slice p l.length cp) (m) o) := R1.out.setRow (by omega) _
      have K5 : Hid (Kept rb w.heap.size w (w11.setRow g2 (partA k' P a' b' (.slice ad' n' cap')))) := K1.out.setRow (Or.inl hg2B.out) _
      clear r2 R1 K1 E1
      go_wp2
      rw [set8 HR4.out]
      exact bodyPost_ret (pret rfl R5.out rfl rfl rfl) rfl ⟨(partA k' P a' b' (.slice ad' n' cap')), _, rfl, ⟨rfl, P5.out⟩, D5.out, K5.out⟩
    · have HPI := Lib.hid (HX.out n wr _ hkn hn hpc E1.out R1.out)
      have hadv := runE_adv hpc _ _ rfl hn
      have HR2 := Lib.hid hR2
      clear HCS hpc hR2
      have c0 : wr.cell? ⟨rb, 0, none⟩ = some (.slice p l.length cp) := R1.out.cell 0
      have c1 : wr.cell? ⟨rb, 1, none⟩ = some (.int .i64 ((n : Nat) : Int)) := R1.out.cell 1
      have c2 : wr.cell? ⟨rb, 2, none⟩ = some (.int .i64 ((o : Nat) : Int)) := R1.out.cell 2
      have z1 : wr.frozen? ⟨rb, 1, none⟩ = false := R1.out.froz 1
      have z2 : wr.frozen? ⟨rb, 2, none⟩ = false := R1.out.froz 2
      have hlt1 := R1.out.lt
      have hg2B4 : g2 < wr.heap.size := r2.out.lt
      have hnotown : Hid (∀ b, (Value.slice ad acc.length cap).ownBlock = some b → BB ≤ b ∧ b < wr.heap.size) := by
        obtain ⟨xs, hx⟩ := A1.out.owns
        exact fun b hb => hx.lt b hb
      go_wp2_with fail
      refine (HPI.out).mono ?_
      rintro e w5 ⟨cs, ev, rfl, hout, hat, hkp⟩; (try dsimp only)
      obtain ⟨rfl, hp⟩ := hout
      obtain ⟨k', P, a', b', ad', n', cap', rfl⟩ := hp.inv
      have r2' : Hid (Row w5 g2 29 zeroPA) := r2.out.kept hkp r2.out.lt (by omega)
      have R1' : Hid (RD w5 rb (.slice p l.length cp) m o) := hat
      have K1' := Lib.hid (K1.out.thenK hkp K1.out.size)
      have E1' := Lib.hid (E1.out.on hkp)
      have A1' := Lib.hid (A1.out.on hkp hBr)
      have Z1' : Hid (BB ≤ w5.heap.size) := Nat.le_trans Z1.out hkp.size
      have HP : Hid (PValS w5 (fun b => BB ≤ b ∧ some b ≠ (Value.slice ad acc.length cap).ownBlock) (partA k' P a' b' (.slice ad' n' cap')) t) := PValS.imp hp fun b h1 h2 => ⟨Nat.le_trans Z1.out h1, fun h3 => by have := (hnotown.out b h3.symm).2; have : wr.heap.size ≤ b := h1; omega⟩
      clear r2 R1 K1 E1 A1 Z1 hat hkp hp HPI c0 c1 c2 z1 z2 hlt1
      go_upto_region 3 with fail
      have hB : Below w5.heap.size w5 (w5.alloc (.cells (partA k' P a' b' (.slice ad' n' cap')) 29)) := (Below.refl _ _).alloc (Nat.le_refl _) _
      have r2 := Lib.hid (r2'.out.on hB)
      have R1 : Hid (RD (w5.alloc (.cells (partA k' P a' b' (.slice ad' n' cap')) 29)) rb (.slice p l.length cp) m o) := R1'.out.on hB
      have K1 := Lib.hid (K1'.out.then hB K1'.out.size)
      have E1 := Lib.hid (E1'.out.on (Kept.of hB))
      have A1 := Lib.hid (A1'.out.blw hB)
      have Z1 : Hid (BB ≤ (w5.alloc (.cells (partA k' P a' b' (.slice ad' n' cap')) 29)).heap.size) := Nat.le_trans Z1'.out hB.size
      have P1 := Lib.hid (HP.out.blw hB)
      have r5 : Row (w5.alloc (.cells (partA k' P a' b' (.slice ad' n' cap')) 29)) w5.heap.size 29 (partA k' P a' b' (.slice ad' n' cap')) := Row.new w5 _ _
      clear r2' R1' K1' E1' A1' Z1' HP hB
      generalize (w5.alloc (.cells (partA k' P a' b' (.slice ad' n' cap')) 29)) = w6 at *
      obtain ⟨g5, hg5⟩ : ∃ x, x = w5.heap.size := ⟨_, rfl⟩
      rw [← hg5]
      rw [← hg5] at r5
      clear hg5
      obtain ⟨m0, m1, m2, m3, m4, m5, m6, m7, e0, e1, e2, e3, e4, e5, e6, e7, z9⟩ := r5.eight
      clear r5 e0 e1 e2 e3 e4 e5 e6 e7
      have hB : Below w6.heap.size w6 (w6.alloc (.cells (partA k' P a' b' (.slice ad' n' cap')) 29)) := (Below.refl _ _).alloc (Nat.le_refl _) _
      have r2' := Lib.hid (r2.out.on hB)
      have R1' : Hid (RD (w6.alloc (.cells (partA k' P a' b' (.slice ad' n' cap')) 29)) rb (.slice p l.length cp) m o) := R1.out.on hB
      have K1' := Lib.hid (K1.out.then hB K1.out.size)
      have E1' := Lib.hid (E1.out.on (Kept.of hB))
      have A1' := Lib.hid (A1.out.blw hB)
      have Z1' : Hid (BB ≤ (w6.alloc (.cells (partA k' P a' b' (.slice ad' n' cap')) 29)).heap.size) := Nat.le_trans Z1.out hB.size
      have P1' := Lib.hid (P1.out.blw hB)
      have r9 : Row (w6.alloc (.cells (partA k' P a' b' (.slice ad' n' cap')) 29)) w6.heap.size 29 (partA k' P a' b' (.slice ad' n' cap')) := Row.new w6 _ _
      obtain ⟨xs, hxs⟩ := A1'.out.owns
      have HXS := Lib.hid hxs
      have HN : Hid (∀ j u, (partA k' P a' b' (.slice ad' n' cap')).toList[j]? = some u → (w6.alloc (.cells (partA k' P a' b' (.slice ad' n' cap')) 29)).cell? ((⟨w6.heap.size, 0, none⟩ : Addr).add j) = some u) := by
        intro j u hu
        have e : (⟨w6.heap.size, 0, none⟩ : Addr).add j = ⟨w6.heap.size, j, none⟩ := by unfold Addr.add; split <;> simp_all
        rw [e, r9.cell]; rw [Array.getElem?_toList] at hu; exact hu
      have HN1 : Hid (∀ u ∈ (partA k' P a' b' (.slice ad' n' cap')).toList, u.oneCell' = true) := P1'.out.one
      have HM1 : Hid (acc.length + 1 ≤ maxLen) := by show _ ≤ _; simp only [maxLen]; omega
      have HM2 : Hid ((acc.length + 1) * 80 ≤ 140737488355328) := by show _ ≤ _; omega
      clear r2 R1 K1 E1 A1 Z1 P1 r9 hxs hB
      go_wp2_with (at_builtin; refine wpList_append_lies _ rfl (.tmp 16) (.tmp 18) _ rfl BB 29 i0 (.agg zeroPA) 8 80 Try.underlying27 HI0.out HZ0.out HZ1.out HZ2.out rfl (by decide) (.slice ad acc.length cap) acc.length xs rfl HXS.out ⟨w6.heap.size, 0, none⟩ 1 1 (partA k' P a' b' (.slice ad' n' cap')).toList rfl rfl HN.out HN1.out (by decide) HM1.out HM2.out Z1'.out _ rfl ?_; intro g cap2 w9 hown hgrow hat hlt)
      have KG : Kept rb BB (w6.alloc (.cells (partA k' P a' b' (.slice ad' n' cap')) 29)) w9 := (Kept.refl rb BB _).grown hgrow Z1'.out (fun b hb => (hnotown.out b hb).1)
      have hrbn : some rb ≠ (Value.slice ad acc.length cap).ownBlock := fun h3 => by have := (hnotown.out rb h3.symm).1; omega
      have r2 := Lib.hid (r2'.out.kept KG hB2 (by omega))
      have R1 : Hid (RD w9 rb (.slice p l.length cp) m o) := (hgrow.block rb R1'.out.lt hrbn).trans R1'.out
      have K1 := Lib.hid (K1'.out.trans (KG.mono hBw.out))
      have E1 := Lib.hid (E1'.out.blw (KG.below (Nat.le_refl _) (Nat.le_of_lt hBr)))
      have A1 := Lib.hid (A1'.out.push P1'.out HXS.out hown hgrow hat)
      have Z1 : Hid (BB ≤ w9.heap.size) := Nat.le_trans Z1'.out hgrow.size
      have hlen : acc.length + 1 ≤ m + 1 := by have := hadv.1; omega
      clear r2' R1' K1' E1' A1' Z1' P1' HXS HN HN1 HM1 HM2 KG hrbn hown hgrow hat hlt m0 m1 m2 m3 m4 m5 m6 m7 z9 hnotown
      have IA : Hid (∀ (n' : Nat), Calls Try.prog 16 #[(.slice p l.length cp), .int .i64 (m : Int), .int .u8 124] (w9.drewN n') fun e w' => e = .returned (.bool true) ∧ w9.drewN n' = w') := by
        intro n'
        have h9 := eis_u (w := w9.drewN n') (E1.out.on (Kept.of (below_drewN (Below.refl _ _) _))).BS hl m (by have := hadv.2; omega) 124
        rw [h124] at h9; exact h9
      have c0 : w9.cell? ⟨rb, 0, none⟩ = some (.slice p l.length cp) := R1.out.cell 0
      have c1 : w9.cell? ⟨rb, 1, none⟩ = some (.int .i64 ((m : Nat) : Int)) := R1.out.cell 1
      have c2 : w9.cell? ⟨rb, 2, none⟩ = some (.int .i64 ((o : Nat) : Int)) := R1.out.cell 2
      have z1 : w9.frozen? ⟨rb, 1, none⟩ = false := R1.out.froz 1
      have z2 : w9.frozen? ⟨rb, 2, none⟩ = false := R1.out.froz 2
      have hlt1 := R1.out.lt
      go_upto_region 6 with fail
      go_quiet (first | (go_at_call 16; refine Calls.quiet_of_same ((IA.out _).mono fun _ _ ⟨ha, hb⟩ => ⟨ha, hb.symm⟩)))
      have hQ : Below w9.heap.size w9 (w9.drewN nq) := below_drewN (Below.refl _ _) _
      have r2' := Lib.hid (r2.out.on hQ)
      have R1' : Hid (RD (w9.drewN nq) rb (.slice p l.length cp) m o) := R1.out.on hQ
      have K1' := Lib.hid (K1.out.then hQ K1.out.size)
      have E1' := Lib.hid (E1.out.on (Kept.of hQ))
      have A1' := Lib.hid (A1.out.blw hQ)
      have Z1' : Hid (BB ≤ (w9.drewN nq).heap.size) := Nat.le_trans Z1.out (Below.size hQ)
      clear r2 R1 K1 E1 A1 Z1 hQ c0 c1 c2 z1 z2 hlt1
      generalize w9.drewN nq = w10 at *
      have r2 := r2'
      have R1 := R1'
      have K1 := K1'
      have E1 := E1'
      have A1 := A1'
      have Z1 := Z1'
      clear r2' R1' K1' E1' A1' Z1'
      have c0 : w10.cell? ⟨rb, 0, none⟩ = some (.slice p l.length cp) := R1.out.cell 0
      have c1 : w10.cell? ⟨rb, 1, none⟩ = some (.int .i64 ((m : Nat) : Int)) := R1.out.cell 1
      have c2 : w10.cell? ⟨rb, 2, none⟩ = some (.int .i64 ((o : Nat) : Int)) := R1.out.cell 2
      have z1 : w10.frozen? ⟨rb, 1, none⟩ = false := R1.out.froz 1
      have z2 : w10.frozen? ⟨rb, 2, none⟩ = false := R1.out.froz 2
      have hlt1 := R1.out.lt
      clear IA
      obtain ⟨mx, hmx⟩ : ∃ x, x = m + 1 := ⟨_, rfl⟩
      have wm : IntKind.i64.wrap ((m : Int) + 1) = (mx : Int) := by have := hadv.2; rw [IntKind.wrap_i64]; omega
      have HMX := Lib.hid hmx
      have HR3 : Hid (RunE l (.exp mx o (acc ++ [t])) R) := by show RunE _ _ _; rw [hmx]; exact HR2.out
      have hml : mx ≤ l.length ∧ k ≤ mx ∧ acc.length + 1 ≤ mx ∧ n < mx := by have := (isL_lt h124).1; have := hadv.1; omega
      clear hmx
      go_wp2
      have R9 : Hid (RD (w10.setCell ⟨rb, 1, none⟩ (.int .i64 (mx : Int))) rb (.slice p l.length cp) mx o) := R1.out.set 1 _
      go_roundw
      case rel => exact ⟨mx, acc ++ [t], hml.1, hml.2.1, by simpa using hml.2.2.1, HR3.out, A1.out.on ((Kept.refl rb w10.heap.size w10).setCell (Or.inr rfl) _) hBr, r2.out.far (by simp; omega) _, R9.out, E1.out.blw ((Below.refl _ _).setCell (by simp) _), K1.out.setCell (Or.inr rfl) _, (by have h9 := Z1.out; show BB ≤ _; simpa using h9)⟩
      case measure => rw [atOf_rd R9.out, HAT.out]; have := hml; omega
end Go.Proofs.Ytfmekmbdienbjaa
