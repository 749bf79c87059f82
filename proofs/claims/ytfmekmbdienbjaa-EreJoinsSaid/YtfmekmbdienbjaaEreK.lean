/- Layer 4: the contract of piece. -/
import Derived.Test.YtfmekmbdienbjaaEreF
import Derived.Test.YtfmekmbdienbjaaEreF
namespace Go.Proofs.Ytfmekmbdienbjaa
set_option linter.unusedSimpArgs false
set_option linter.unusedVariables false
set_option linter.unnecessarySimpa false
open Go.RowKit

theorem pie_inv {l : List UInt8} {k o : Nat} {t : PT} {s : Nat} {R : ER} (h : RunE l (.pie k o t s) R) :
    (signL l k = .none ∧ R = .ok t k) ∨ (signL l k = .bad ∧ R = .bad k 5) ∨ (∃ a b n, signL l k = .some a b n ∧ s = 8 ∧ R = .bad k 6) ∨ (∃ a b n, signL l k = .some a b n ∧ s ≠ 8 ∧ RunE l (.pie n o (.node 4 nonP a b [t]) (s + 1)) R) := by
  cases h with
  | pieEnd _ _ _ _ h1 => exact Or.inl ⟨h1, rfl⟩
  | pieBad _ _ _ _ h1 => exact Or.inr (Or.inl ⟨h1, rfl⟩)
  | pieDeep _ _ _ a b n h1 => exact Or.inr (Or.inr (Or.inl ⟨a, b, n, h1, rfl, rfl⟩))
  | pieOn _ _ _ _ a b n _ h1 h2 h3 => exact Or.inr (Or.inr (Or.inr ⟨a, b, n, h1, h2, h3⟩))

set_option maxRecDepth 100000 in
set_option maxHeartbeats 16000000 in
theorem pie_bad {w : World} {rb : Nat} {v : Value} {l : List UInt8} (h : Env w rb v l) (hl : l.length ≤ 1000000000) (k o : Nat) (hk : k < l.length) (hr : RD w rb v k o) (a cc : Nat) (HX : Hid (∀ W, Env W rb v l → RD W rb v k o → Calls Try.prog 21 #[.pointer (some ⟨rb, 0, none⟩)] W fun e w' => EndR rb v o W (.bad a cc) e w')) :
    Calls Try.prog 20 #[.pointer (some ⟨rb, 0, none⟩)] w fun e w' => EndR rb v o w (.bad a cc) e w' := by
  have H := Lib.hid h
  have HR := Lib.hid hr
  have hrl := h.rl
  obtain ⟨k1, hk1⟩ : ∃ x, x = k + 1 := ⟨_, rfl⟩
  obtain ⟨k2, hk2⟩ : ∃ x, x = k + 2 := ⟨_, rfl⟩
  have wk : IntKind.i64.wrap ((k : Int) + 1) = (k1 : Int) := by rw [IntKind.wrap_i64]; omega
  have wk2 : IntKind.i64.wrap ((k : Int) + 2) = (k2 : Int) := by rw [IntKind.wrap_i64]; omega
  have HK1 := Lib.hid hk1
  have HK2 := Lib.hid hk2
  clear h hr
  go_enter Try.func20, Try.ntmps20
  go_upto_region 1 with fail
  have K1 : Hid (Kept rb w.heap.size w (w.alloc (.cells zeroPA 29))) := (Kept.refl _ _ _).alloc (Nat.le_refl _) _
  have r2 : Hid (Row (w.alloc (.cells zeroPA 29)) w.heap.size 29 zeroPA) := Row.new w _ _
  have R1 : Hid (RD (w.alloc (.cells zeroPA 29)) rb v k o) := HR.out.on ((Below.refl _ _).alloc (Nat.le_refl _) _)
  have E1 : Hid (Env (w.alloc (.cells zeroPA 29)) rb v l) := H.out.on K1.out
  generalize w.alloc (.cells zeroPA 29) = w1 at *
  obtain ⟨g2, hg2⟩ : ∃ g, g = w.heap.size := ⟨_, rfl⟩
  rw [← hg2]
  rw [← hg2] at r2
  have hg2l : rb < g2 := by rw [hg2]; exact hrl
  have hg2B : Hid (w.heap.size ≤ g2) := Nat.le_of_eq hg2.symm
  clear hg2 H HR hrl hk1 hk2
  obtain ⟨p, cp, rfl, hlc, hcm, hU⟩ := E1.out.bs
  clear hU
  have c0 : w1.cell? ⟨rb, 0, none⟩ = some (.slice p l.length cp) := R1.out.cell 0
  have c1 : w1.cell? ⟨rb, 1, none⟩ = some (.int .i64 ((k : Nat) : Int)) := R1.out.cell 1
  have c2 : w1.cell? ⟨rb, 2, none⟩ = some (.int .i64 ((o : Nat) : Int)) := R1.out.cell 2
  have z1 : w1.frozen? ⟨rb, 1, none⟩ = false := R1.out.froz 1
  have z2 : w1.frozen? ⟨rb, 2, none⟩ = false := R1.out.froz 2
  have hlt1 := R1.out.lt
  have hg2B4 : g2 < w1.heap.size := r2.out.lt
  go_wp2_with fail
  refine (HX.out _ E1.out R1.out).mono ?_
  rintro e w5 ⟨cs, ev, rfl, hout, hat, hkp⟩; (try dsimp only)
  have r2' : Hid (Row w5 g2 29 zeroPA) := r2.out.kept hkp r2.out.lt (by omega)
  have K1' := Lib.hid (K1.out.thenK hkp K1.out.size)
  have E1' := Lib.hid (E1.out.on hkp)
  have hszK := Lib.hid K1.out.size
  obtain ⟨rfl, b, rfl, hb1, hb2, hb3⟩ := hout
  obtain ⟨n', o', hat⟩ := hat
  have R1' : Hid (RD w5 rb (.slice p l.length cp) n' o') := hat
  have HF3 := Lib.hid hb3
  have hb1' : Hid (w.heap.size ≤ b) := Nat.le_trans hszK.out hb1
  have hb2' := Lib.hid hb2
  clear r2 R1 K1 E1 hat hkp hb3 hb1 hb2 HX
  go_upto_region 2 with fail
  have r2 : Hid (Row (w5.alloc (.cells zeroPA 29)) g2 29 zeroPA) := r2'.out.alloc _
  have R1 : Hid (RD (w5.alloc (.cells zeroPA 29)) rb (.slice p l.length cp) n' o') := R1'.out.alloc _
  have K1 := Lib.hid (K1'.out.alloc K1'.out.size (.cells zeroPA 29))
  have F1 : Hid (FRow (w5.alloc (.cells zeroPA 29)) b a cc) := HF3.out.alloc _
  clear r2' R1' K1' E1' HF3
  generalize (w5.alloc (.cells zeroPA 29)) = w6 at *
  have HR4 := r2
  obtain ⟨j0, j1, j2, j3, j4, j5, j6, j7, f0, f1, f2, f3, f4, f5, f6, f7, z4⟩ := r2.out.eight
  have R5 := Lib.hid (r2.out.setRow_same zeroPA)
  have hbg2 : Hid (b ≠ g2) := by
    show b ≠ g2
    rintro rfl
    have e := F1.out.symm.trans HR4.out
    simp at e
  have F5 : Hid (FRow (w6.setRow g2 zeroPA) b a cc) := F1.out.setRow hbg2.out _
  have D5 : Hid (RD (w6.setRow g2 zeroPA) rb (.slice p l.length cp) n' o') := R1.out.setRow (by omega) _
  have K5 : Hid (Kept rb w.heap.size w (w6.setRow g2 zeroPA)) := K1.out.setRow (Or.inl hg2B.out) _
  clear r2 R1 K1
  go_wp2
  rw [set8 HR4.out]
  exact bodyPost_ret (pret rfl R5.out rfl rfl rfl) rfl ⟨zeroPA, _, rfl, ⟨rfl, _, rfl, hb1'.out, hb2'.out, F5.out⟩, ⟨n', o', D5.out⟩, K5.out⟩
set_option maxRecDepth 100000 in
set_option maxHeartbeats 16000000 in
theorem pie_ok {w : World} {rb : Nat} {v : Value} {l : List UInt8} (h : Env w rb v l) (hl : l.length ≤ 1000000000) (k o : Nat) (hk : k < l.length) (hr : RD w rb v k o) (t : PT) (n : Nat) (hnl : n ≤ l.length) (R : ER) (hR : RunE l (.pie n o t 0) R) (HX : Hid (∀ W, Env W rb v l → RD W rb v k o → Calls Try.prog 21 #[.pointer (some ⟨rb, 0, none⟩)] W fun e w' => EndR rb v o W (.ok t n) e w')) :
    Calls Try.prog 20 #[.pointer (some ⟨rb, 0, none⟩)] w fun e w' => EndR rb v o w (R) e w' := by
  have H := Lib.hid h
  have HR := Lib.hid hr
  have hrl := h.rl
  have hrw0 : Hid (rb < w.heap.size) := hrl
  obtain ⟨k1, hk1⟩ : ∃ x, x = k + 1 := ⟨_, rfl⟩
  obtain ⟨k2, hk2⟩ : ∃ x, x = k + 2 := ⟨_, rfl⟩
  have wk : IntKind.i64.wrap ((k : Int) + 1) = (k1 : Int) := by rw [IntKind.wrap_i64]; omega
  have wk2 : IntKind.i64.wrap ((k : Int) + 2) = (k2 : Int) := by rw [IntKind.wrap_i64]; omega
  have HK1 := Lib.hid hk1
  have HK2 := Lib.hid hk2
  have HRR := Lib.hid hR
  clear hR
  clear h hr
  go_enter Try.func20, Try.ntmps20
  go_upto_region 1 with fail
  have K1 : Hid (Kept rb w.heap.size w (w.alloc (.cells zeroPA 29))) := (Kept.refl _ _ _).alloc (Nat.le_refl _) _
  have r2 : Hid (Row (w.alloc (.cells zeroPA 29)) w.heap.size 29 zeroPA) := Row.new w _ _
  have R1 : Hid (RD (w.alloc (.cells zeroPA 29)) rb v k o) := HR.out.on ((Below.refl _ _).alloc (Nat.le_refl _) _)
  have E1 : Hid (Env (w.alloc (.cells zeroPA 29)) rb v l) := H.out.on K1.out
  generalize w.alloc (.cells zeroPA 29) = w1 at *
  obtain ⟨g2, hg2⟩ : ∃ g, g = w.heap.size := ⟨_, rfl⟩
  rw [← hg2]
  rw [← hg2] at r2
  have hg2l : rb < g2 := by rw [hg2]; exact hrl
  have hg2B : Hid (w.heap.size ≤ g2) := Nat.le_of_eq hg2.symm
  clear hg2 H HR hrl hk1 hk2
  obtain ⟨p, cp, rfl, hlc, hcm, hU⟩ := E1.out.bs
  clear hU
  have c0 : w1.cell? ⟨rb, 0, none⟩ = some (.slice p l.length cp) := R1.out.cell 0
  have c1 : w1.cell? ⟨rb, 1, none⟩ = some (.int .i64 ((k : Nat) : Int)) := R1.out.cell 1
  have c2 : w1.cell? ⟨rb, 2, none⟩ = some (.int .i64 ((o : Nat) : Int)) := R1.out.cell 2
  have z1 : w1.frozen? ⟨rb, 1, none⟩ = false := R1.out.froz 1
  have z2 : w1.frozen? ⟨rb, 2, none⟩ = false := R1.out.froz 2
  have hlt1 := R1.out.lt
  have hg2B4 : g2 < w1.heap.size := r2.out.lt
  go_wp2_with fail
  refine (HX.out _ E1.out R1.out).mono ?_
  rintro e w5 ⟨cs, ev, rfl, hout, hat, hkp⟩; (try dsimp only)
  have r2' : Hid (Row w5 g2 29 zeroPA) := r2.out.kept hkp r2.out.lt (by omega)
  have K1' := Lib.hid (K1.out.thenK hkp K1.out.size)
  have E1' := Lib.hid (E1.out.on hkp)
  have hszK := Lib.hid K1.out.size
  obtain ⟨rfl, hp⟩ := hout
  obtain ⟨k', P, a', b', ad', n', cap', rfl⟩ := hp.inv
  have R1' : Hid (RD w5 rb (.slice p l.length cp) n o) := hat
  have HP : Hid (PValS w5 (fun b => w.heap.size ≤ b ∧ b ≠ w5.heap.size ∧ b ≠ g2) (partA k' P a' b' (.slice ad' n' cap')) t) := PValS.imp hp fun b h1 h2 => ⟨Nat.le_trans hszK.out h1, by omega, by have : w1.heap.size ≤ b := h1; omega⟩
  clear r2 R1 K1 E1 hat hkp HX hp
  go_upto_region 2 with fail
  have r2 : Hid (Row (w5.alloc (.cells (partA k' P a' b' (.slice ad' n' cap')) 29)) g2 29 zeroPA) := r2'.out.alloc _
  have R1 : Hid (RD (w5.alloc (.cells (partA k' P a' b' (.slice ad' n' cap')) 29)) rb (.slice p l.length cp) n o) := R1'.out.alloc _
  have K1 := Lib.hid (K1'.out.alloc K1'.out.size (.cells (partA k' P a' b' (.slice ad' n' cap')) 29))
  have E1 := Lib.hid (E1'.out.on ((Kept.refl rb w5.heap.size w5).alloc (Nat.le_refl _) (.cells (partA k' P a' b' (.slice ad' n' cap')) 29)))
  have r4 : Hid (Row (w5.alloc (.cells (partA k' P a' b' (.slice ad' n' cap')) 29)) w5.heap.size 29 (partA k' P a' b' (.slice ad' n' cap'))) := Row.new w5 _ _
  have P1 : Hid (PValS (w5.alloc (.cells (partA k' P a' b' (.slice ad' n' cap')) 29)) (fun b => w.heap.size ≤ b ∧ b ≠ w5.heap.size ∧ b ≠ g2) (partA k' P a' b' (.slice ad' n' cap')) t) := HP.out.blw ((Below.refl _ _).alloc (Nat.le_refl _) _)
  have hg24 : g2 < w5.heap.size := r2'.out.lt
  clear r2' R1' K1' E1' HP
  generalize (w5.alloc (.cells (partA k' P a' b' (.slice ad' n' cap')) 29)) = w6 at *
  obtain ⟨g4, hg4⟩ : ∃ x, x = w5.heap.size := ⟨_, rfl⟩
  rw [← hg4]
  rw [← hg4] at r4 hg24 P1
  clear hg4 c0 c1 c2 z1 z2 hlt1 hg2B4 hszK HK1 HK2 wk wk2
  have wg4 : Hid (w.heap.size ≤ g4) := Nat.le_trans hg2B.out (Nat.le_of_lt hg24)
  obtain ⟨SS, hSS⟩ : ∃ S : Nat → Prop, S = fun b => w.heap.size ≤ b ∧ b ≠ g4 ∧ b ≠ g2 := ⟨_, rfl⟩
  rw [← hSS] at P1
  have HS0 : Hid (∀ b, SS b ↔ (w.heap.size ≤ b ∧ b ≠ g4 ∧ b ≠ g2)) := by rw [hSS]; exact fun b => Iff.rfl
  clear hSS
  have rbw : Hid (rb < w.heap.size) := hrw0.out
  go_wp2
  go_loopw [6] (fun t6 wr => ∃ (s n : Nat) (t : PT) (k' : Nat) (P : Nat → Bool) (a' b' : Int) (ad' : Option Addr) (n' cap' : Nat), t6 = .int .i64 (s : Int) ∧ s ≤ 8 ∧ n ≤ l.length ∧ Hid (RunE l (.pie n o t s) R) ∧ Hid (Row wr g4 29 (partA k' P a' b' (.slice ad' n' cap'))) ∧ Hid (Row wr g2 29 zeroPA) ∧ Hid (RD wr rb (.slice p l.length cp) n o) ∧ Hid (Env wr rb (.slice p l.length cp) l) ∧ Hid (Kept rb w.heap.size w wr) ∧ Hid (PValS wr SS (partA k' P a' b' (.slice ad' n' cap')) t)) (fun t6 _ => 9 - (intOf t6).toNat)
  case atStart => exact ⟨0, n, t, k', P, a', b', ad', n', cap', rfl, by omega, hnl, HRR, r4, r2, R1, E1, K1, P1⟩
  case round =>
    clear r4 r2 R1 E1 K1 P1 HRR hnl
    obtain ⟨s, n, t, k', P, a', b', ad', n', cap', rfl, hs8, hnl, HRR, r4, r2, R1, E1, K1, P1⟩ := hrel
    have HSG := Lib.hid (sgn_u E1.out.BS hl rb n o hnl R1.out)
    have hrwr : rb < wr.heap.size := R1.out.lt
    rcases pie_inv HRR.out with ⟨hsn, rfl⟩ | ⟨hsn, rfl⟩ | ⟨x, y, n2, hsn, rfl, rfl⟩ | ⟨x, y, n2, hsn, hs9, hR2⟩
    · rw [hsn] at HSG
      clear hsn
      go_wp2_with fail
      refine (HSG.out).mono ?_
      rintro e w7 ⟨rfl, hb⟩; (try dsimp only)
      have r2' := Lib.hid (r2.out.on hb)
      have r4' := Lib.hid (r4.out.on hb)
      have R1' : Hid (RD w7 rb (.slice p l.length cp) n o) := R1.out.on hb
      have K1' := Lib.hid (K1.out.then hb K1.out.size)
      have E1' := Lib.hid (E1.out.on (Kept.of hb))
      have P1' := Lib.hid (P1.out.blw hb)
      clear r2 r4 R1 K1 E1 P1 hb HRR HSG
      have r2 := r2'
      have r4 := r4'
      have P1 := P1'
      have R1 := R1'
      have K1 := K1'
      have E1 := E1'
      clear r4' P1' r2' R1' K1' E1'
      have c0 : w7.cell? ⟨rb, 0, none⟩ = some (.slice p l.length cp) := R1.out.cell 0
      have c1 : w7.cell? ⟨rb, 1, none⟩ = some (.int .i64 ((n : Nat) : Int)) := R1.out.cell 1
      have c2 : w7.cell? ⟨rb, 2, none⟩ = some (.int .i64 ((o : Nat) : Int)) := R1.out.cell 2
      have z1 : w7.frozen? ⟨rb, 1, none⟩ = false := R1.out.froz 1
      have z2 : w7.frozen? ⟨rb, 2, none⟩ = false := R1.out.froz 2
      have hlt1 := R1.out.lt
      obtain ⟨m0, m1, m2, m3, m4, m5, m6, m7, e0, e1, e2, e3, e4, e5, e6, e7, z9⟩ := r4.out.eight
      have HR4 := r2
      obtain ⟨j0, j1, j2, j3, j4, j5, j6, j7, f0, f1, f2, f3, f4, f5, f6, f7, z4⟩ := r2.out.eight
      have R5 := Lib.hid (r2.out.setRow_same (partA k' P a' b' (.slice ad' n' cap')))
      have P5 : Hid (PVal (w7.setRow g2 (partA k' P a' b' (.slice ad' n' cap'))) w.heap.size (partA k' P a' b' (.slice ad' n' cap')) (t)) := (P1.out.setRow (fun h9 => ((HS0.out _).1 h9).2.2 rfl) _).imp (fun b h9 _ => ((HS0.out b).1 h9).1)
      have D5 : Hid (RD (w7.setRow g2 (partA k' P a' b' (.slice ad' n' cap'))) rb (.slice p l.length cp) (n) o) := R1.out.setRow (by omega) _
      have K5 : Hid (Kept rb w.heap.size w (w7.setRow g2 (partA k' P a' b' (.slice ad' n' cap')))) := K1.out.setRow (Or.inl hg2B.out) _
      clear r2 R1 K1 E1 r4 P1 HS0
      go_wp2
      rw [set8 HR4.out]
      exact bodyPost_ret (pret rfl R5.out rfl rfl rfl) rfl ⟨(partA k' P a' b' (.slice ad' n' cap')), _, rfl, ⟨rfl, P5.out⟩, D5.out, K5.out⟩
    · rw [hsn] at HSG
      clear hsn
      go_wp2_with fail
      refine (HSG.out).mono ?_
      rintro e w7 ⟨bf, rfl, hbf, hfr, hb⟩; (try dsimp only)
      have HFR := Lib.hid hfr
      have hbw : Hid (w.heap.size ≤ bf) := Nat.le_trans K1.out.size hbf
      have hbr : Hid (bf ≠ rb) := by show bf ≠ rb; omega
      clear hfr hbf
      have r2' := Lib.hid (r2.out.on hb)
      have r4' := Lib.hid (r4.out.on hb)
      have R1' : Hid (RD w7 rb (.slice p l.length cp) n o) := R1.out.on hb
      have K1' := Lib.hid (K1.out.then hb K1.out.size)
      have E1' := Lib.hid (E1.out.on (Kept.of hb))
      have P1' := Lib.hid (P1.out.blw hb)
      clear r2 r4 R1 K1 E1 P1 hb HRR HSG
      have r2 := r2'
      have r4 := r4'
      have P1 := P1'
      have R1 := R1'
      have K1 := K1'
      have E1 := E1'
      clear r4' P1' r2' R1' K1' E1'
      have c0 : w7.cell? ⟨rb, 0, none⟩ = some (.slice p l.length cp) := R1.out.cell 0
      have c1 : w7.cell? ⟨rb, 1, none⟩ = some (.int .i64 ((n : Nat) : Int)) := R1.out.cell 1
      have c2 : w7.cell? ⟨rb, 2, none⟩ = some (.int .i64 ((o : Nat) : Int)) := R1.out.cell 2
      have z1 : w7.frozen? ⟨rb, 1, none⟩ = false := R1.out.froz 1
      have z2 : w7.frozen? ⟨rb, 2, none⟩ = false := R1.out.froz 2
      have hlt1 := R1.out.lt
      clear r4 P1
      have HR4 := r2
      obtain ⟨j0, j1, j2, j3, j4, j5, j6, j7, f0, f1, f2, f3, f4, f5, f6, f7, z4⟩ := r2.out.eight
      have R5 := Lib.hid (r2.out.setRow_same zeroPA)
      have hbg2 : Hid (bf ≠ g2) := by
        show bf ≠ g2
        rintro rfl
        have e := HFR.out.symm.trans HR4.out
        simp at e
      have F5 : Hid (FRow (w7.setRow g2 zeroPA) bf n 5) := HFR.out.setRow hbg2.out _
      have D5 : Hid (RD (w7.setRow g2 zeroPA) rb (.slice p l.length cp) n o) := R1.out.setRow (by omega) _
      have K5 : Hid (Kept rb w.heap.size w (w7.setRow g2 zeroPA)) := K1.out.setRow (Or.inl hg2B.out) _
      clear r2 R1 K1 E1
      go_wp2
      rw [set8 HR4.out]
      exact bodyPost_ret (pret rfl R5.out rfl rfl rfl) rfl ⟨zeroPA, _, rfl, ⟨rfl, _, rfl, hbw.out, hbr.out, F5.out⟩, ⟨n, o, D5.out⟩, K5.out⟩
    · have hsl := signL_some hsn
      rw [hsn] at HSG
      obtain ⟨d, hd9⟩ : ∃ d : Int, d = (n2 : Int) - (n : Int) := ⟨_, rfl⟩
      have hz : (d == 0) = false := by rw [beq_eq_false_iff_ne]; omega
      have wD : IntKind.i64.wrap ((n : Int) + d) = (n2 : Int) := by rw [IntKind.wrap_i64]; omega
      have HSG' : Hid (Calls Try.prog 22 #[.pointer (some ⟨rb, 0, none⟩)] wr fun e w' => e = .returned (.tuple #[.int .i64 x, .int .i64 y, .int .i64 d, .nilIface]) ∧ Below wr.heap.size wr w') := by rw [hd9]; exact HSG.out
      clear hsn hd9 HSG
      have HSG := HSG'
      clear HSG'
      go_wp2_with fail
      refine (HSG.out).mono ?_
      rintro e w7 ⟨rfl, hb⟩; (try dsimp only)
      have HF : Hid (∀ a c W, Calls Try.prog 11 #[.int .i64 ((a : Nat) : Int), .int .i64 ((c : Nat) : Int)] W fun e w' => e = .returned (.iface 47 (.pointer (some ⟨W.heap.size, 0, none⟩))) ∧ w' = W.alloc (.cells #[.int .i64 (a : Int), .iface 41 (.int .i64 (c : Int))] 49)) := fun a c W => efault_u a c W
      have r2' := Lib.hid (r2.out.on hb)
      have r4' := Lib.hid (r4.out.on hb)
      have R1' : Hid (RD w7 rb (.slice p l.length cp) n o) := R1.out.on hb
      have K1' := Lib.hid (K1.out.then hb K1.out.size)
      have E1' := Lib.hid (E1.out.on (Kept.of hb))
      have P1' := Lib.hid (P1.out.blw hb)
      clear r2 r4 R1 K1 E1 P1 hb HRR HSG
      have r2 := r2'
      have r4 := r4'
      have P1 := P1'
      have R1 := R1'
      have K1 := K1'
      have E1 := E1'
      clear r4' P1' r2' R1' K1' E1'
      have c0 : w7.cell? ⟨rb, 0, none⟩ = some (.slice p l.length cp) := R1.out.cell 0
      have c1 : w7.cell? ⟨rb, 1, none⟩ = some (.int .i64 ((n : Nat) : Int)) := R1.out.cell 1
      have c2 : w7.cell? ⟨rb, 2, none⟩ = some (.int .i64 ((o : Nat) : Int)) := R1.out.cell 2
      have z1 : w7.frozen? ⟨rb, 1, none⟩ = false := R1.out.froz 1
      have z2 : w7.frozen? ⟨rb, 2, none⟩ = false := R1.out.froz 2
      have hlt1 := R1.out.lt
      clear r4 P1
      go_wp2_with fail
      refine (HF.out n 6 _).mono ?_; rintro e w8 ⟨rfl, hw8⟩; (try dsimp only)
      have R4 : Row w8 g2 29 zeroPA := by rw [hw8]; exact r2.out.alloc _
      have F4 : FRow w8 w7.heap.size n 6 := by rw [hw8]; exact Row.new w7 _ _
      have D4 : RD w8 rb (.slice p l.length cp) n o := by rw [hw8]; exact R1.out.alloc _
      have K4 : Kept rb w.heap.size w w8 := by rw [hw8]; exact K1.out.alloc K1.out.size _
      have HR4 := Lib.hid R4
      obtain ⟨j0, j1, j2, j3, j4, j5, j6, j7, f0, f1, f2, f3, f4, f5, f6, f7, z4⟩ := R4.eight
      have R5 := Lib.hid (R4.setRow_same zeroPA)
      have F5 : Hid (FRow (w8.setRow g2 zeroPA) w7.heap.size n 6) := F4.setRow (Nat.ne_of_gt r2.out.lt) _
      have D5 : Hid (RD (w8.setRow g2 zeroPA) rb (.slice p l.length cp) n o) := D4.setRow (by omega) _
      have K5 : Hid (Kept rb w.heap.size w (w8.setRow g2 zeroPA)) := K4.setRow (Or.inl hg2B.out) _
      have hne : Hid (w7.heap.size ≠ rb) := Nat.ne_of_gt R1.out.lt
      have hwb : Hid (w.heap.size ≤ w7.heap.size) := K1.out.size
      clear R4 F4 D4 K4 hw8
      go_wp2
      rw [set8 HR4.out]
      exact bodyPost_ret (pret rfl R5.out rfl rfl rfl) rfl ⟨zeroPA, _, rfl, ⟨rfl, _, rfl, hwb.out, hne.out, F5.out⟩, ⟨n, o, D5.out⟩, K5.out⟩
    · have hsl := signL_some hsn
      rw [hsn] at HSG
      obtain ⟨d, hd9⟩ : ∃ d : Int, d = (n2 : Int) - (n : Int) := ⟨_, rfl⟩
      have hz : (d == 0) = false := by rw [beq_eq_false_iff_ne]; omega
      have wD : IntKind.i64.wrap ((n : Int) + d) = (n2 : Int) := by rw [IntKind.wrap_i64]; omega
      have HSG' : Hid (Calls Try.prog 22 #[.pointer (some ⟨rb, 0, none⟩)] wr fun e w' => e = .returned (.tuple #[.int .i64 x, .int .i64 y, .int .i64 d, .nilIface]) ∧ Below wr.heap.size wr w') := by rw [hd9]; exact HSG.out
      clear hsn hd9 HSG
      have HSG := HSG'
      clear HSG'
      have t8 : ((s : Int) == 8) = false := by rw [beq_eq_false_iff_ne]; omega
      have hs7 : s + 1 ≤ 8 := by omega
      have HR2 := Lib.hid hR2
      clear hR2 hs9
      go_wp2_with fail
      refine (HSG.out).mono ?_
      rintro e w7 ⟨rfl, hb⟩; (try dsimp only)
      have r2' := Lib.hid (r2.out.on hb)
      have r4' := Lib.hid (r4.out.on hb)
      have R1' : Hid (RD w7 rb (.slice p l.length cp) n o) := R1.out.on hb
      have K1' := Lib.hid (K1.out.then hb K1.out.size)
      have E1' := Lib.hid (E1.out.on (Kept.of hb))
      have P1' := Lib.hid (P1.out.blw hb)
      clear r2 r4 R1 K1 E1 P1 hb HRR HSG
      have r2 := r2'
      have r4 := r4'
      have P1 := P1'
      have R1 := R1'
      have K1 := K1'
      have E1 := E1'
      clear r4' P1' r2' R1' K1' E1'
      have c0 : w7.cell? ⟨rb, 0, none⟩ = some (.slice p l.length cp) := R1.out.cell 0
      have c1 : w7.cell? ⟨rb, 1, none⟩ = some (.int .i64 ((n : Nat) : Int)) := R1.out.cell 1
      have c2 : w7.cell? ⟨rb, 2, none⟩ = some (.int .i64 ((o : Nat) : Int)) := R1.out.cell 2
      have z1 : w7.frozen? ⟨rb, 1, none⟩ = false := R1.out.froz 1
      have z2 : w7.frozen? ⟨rb, 2, none⟩ = false := R1.out.froz 2
      have hlt1 := R1.out.lt
      obtain ⟨m0, m1, m2, m3, m4, m5, m6, m7, e0, e1, e2, e3, e4, e5, e6, e7, z9⟩ := r4.out.eight
      obtain ⟨q0, q1, q2, q3, q4, q5, q6, q7, p0, p1, p2, p3, p4, p5, p6, p7, z10⟩ := r4.out.eight
      go_upto_region 14 with fail
      have HR7 := r4
      rw [set8 HR7.out]
      have hg4l : g4 < w7.heap.size := r4.out.lt
      have nS4 : ¬ SS g4 := fun h9 => ((HS0.out _).1 h9).2.1 rfl
      have B7 : Below rb w7 ((w7.setRow g4 #[.int .i64 4, .int .u64 0, .int .u64 0, .int .u64 0, .int .u64 0, .int .i64 x, .int .i64 y, .slice (some ⟨w7.heap.size, 0, none⟩) 1 1]).alloc (.cells (partA k' P a' b' (.slice ad' n' cap')) 29)) := by
        refine Below.alloc (below_setRow (Below.refl _ _) (by have := wg4.out; have := rbw.out; omega) _) ?_ _
        simp; omega
      have r4' : Hid (Row ((w7.setRow g4 #[.int .i64 4, .int .u64 0, .int .u64 0, .int .u64 0, .int .u64 0, .int .i64 x, .int .i64 y, .slice (some ⟨w7.heap.size, 0, none⟩) 1 1]).alloc (.cells (partA k' P a' b' (.slice ad' n' cap')) 29)) g4 29 (partA 4 nonP x y (.slice (some ⟨w7.heap.size, 0, none⟩) 1 1))) := by
        show Row _ _ _ _
        rw [zero_setp]; exact (r4.out.setRow_same _).alloc _
      have r2' : Hid (Row ((w7.setRow g4 #[.int .i64 4, .int .u64 0, .int .u64 0, .int .u64 0, .int .u64 0, .int .i64 x, .int .i64 y, .slice (some ⟨w7.heap.size, 0, none⟩) 1 1]).alloc (.cells (partA k' P a' b' (.slice ad' n' cap')) 29)) g2 29 zeroPA) := (r2.out.setRow (by omega) _).alloc _
      have R1' : Hid (RD ((w7.setRow g4 #[.int .i64 4, .int .u64 0, .int .u64 0, .int .u64 0, .int .u64 0, .int .i64 x, .int .i64 y, .slice (some ⟨w7.heap.size, 0, none⟩) 1 1]).alloc (.cells (partA k' P a' b' (.slice ad' n' cap')) 29)) rb (.slice p l.length cp) n o) := (R1.out.setRow (by have := wg4.out; have := rbw.out; omega) _).alloc _
      have K1' : Hid (Kept rb w.heap.size w ((w7.setRow g4 #[.int .i64 4, .int .u64 0, .int .u64 0, .int .u64 0, .int .u64 0, .int .i64 x, .int .i64 y, .slice (some ⟨w7.heap.size, 0, none⟩) 1 1]).alloc (.cells (partA k' P a' b' (.slice ad' n' cap')) 29))) := (K1.out.setRow (Or.inl wg4.out) _).alloc (by simp; exact K1.out.size) _
      have E1' : Hid (Env ((w7.setRow g4 #[.int .i64 4, .int .u64 0, .int .u64 0, .int .u64 0, .int .u64 0, .int .i64 x, .int .i64 y, .slice (some ⟨w7.heap.size, 0, none⟩) 1 1]).alloc (.cells (partA k' P a' b' (.slice ad' n' cap')) 29)) rb (.slice p l.length cp) l) := E1.out.blw B7
      have hne9 : Row ((w7.setRow g4 #[.int .i64 4, .int .u64 0, .int .u64 0, .int .u64 0, .int .u64 0, .int .i64 x, .int .i64 y, .slice (some ⟨w7.heap.size, 0, none⟩) 1 1]).alloc (.cells (partA k' P a' b' (.slice ad' n' cap')) 29)) w7.heap.size 29 (partA k' P a' b' (.slice ad' n' cap')) := Row.new' (by simp)
      have P1' : Hid (PValS ((w7.setRow g4 #[.int .i64 4, .int .u64 0, .int .u64 0, .int .u64 0, .int .u64 0, .int .i64 x, .int .i64 y, .slice (some ⟨w7.heap.size, 0, none⟩) 1 1]).alloc (.cells (partA k' P a' b' (.slice ad' n' cap')) 29)) SS (partA 4 nonP x y (.slice (some ⟨w7.heap.size, 0, none⟩) 1 1)) (.node 4 nonP x y [t])) := by
        have PP : PValS ((w7.setRow g4 #[.int .i64 4, .int .u64 0, .int .u64 0, .int .u64 0, .int .u64 0, .int .i64 x, .int .i64 y, .slice (some ⟨w7.heap.size, 0, none⟩) 1 1]).alloc (.cells (partA k' P a' b' (.slice ad' n' cap')) 29)) SS (partA k' P a' b' (.slice ad' n' cap')) t := (P1.out.setRow nS4 _).blw ((Below.refl _ _).alloc (Nat.le_refl _) _)
        refine PSl.part (l := [t]) ⟨some ⟨w7.heap.size, 0, none⟩, 1, w7.heap.size, fun _ => (partA k' P a' b' (.slice ad' n' cap')), rfl, ⟨Nat.le_refl _, by simp [maxLen]⟩, fun _ => ⟨rfl, (HS0.out _).2 ⟨K1.out.size, by omega, by omega⟩, by simp⟩, ?_, ?_⟩ 4 nonP x y
        · intro j hj i u hu
          obtain rfl : j = 0 := by simp at hj; omega
          rw [Nat.mul_zero, Nat.zero_add, hne9.cell]; exact hu
        · intro j hj
          obtain rfl : j = 0 := by simp at hj; omega
          exact PP
      clear r4 r2 R1 K1 E1 P1 hne9 B7 c0 c1 c2 z1 z2 hlt1 m0 m1 m2 m3 m4 m5 m6 m7 e0 e1 e2 e3 e4 e5 e6 e7 z9 q0 q1 q2 q3 q4 q5 q6 q7 p0 p1 p2 p3 p4 p5 p6 p7 z10 HR7
      generalize ((w7.setRow g4 #[.int .i64 4, .int .u64 0, .int .u64 0, .int .u64 0, .int .u64 0, .int .i64 x, .int .i64 y, .slice (some ⟨w7.heap.size, 0, none⟩) 1 1]).alloc (.cells (partA k' P a' b' (.slice ad' n' cap')) 29)) = w9 at *
      obtain ⟨g9, hg9⟩ : ∃ x, x = w7.heap.size := ⟨_, rfl⟩
      rw [← hg9]
      rw [← hg9] at r4' P1'
      clear hg9 hg4l
      have c0 : w9.cell? ⟨rb, 0, none⟩ = some (.slice p l.length cp) := R1'.out.cell 0
      have c1 : w9.cell? ⟨rb, 1, none⟩ = some (.int .i64 (n : Int)) := R1'.out.cell 1
      have z1 : w9.frozen? ⟨rb, 1, none⟩ = false := R1'.out.froz 1
      have hlt1 := R1'.out.lt
      go_wp2
      go_roundw
      case rel =>
        exact ⟨s + 1, n2, .node 4 nonP x y [t], 4, nonP, x, y, some ⟨g9, 0, none⟩, 1, 1, by go_num, hs7, hsl.2.1, HR2.out, r4'.out.far (by have := wg4.out; have := rbw.out; simp; omega) _, r2'.out.far (by simp; omega) _, R1'.out.set 1 _, E1'.out.blw ((Below.refl _ _).setCell (by simp) _), K1'.out.setCell (Or.inr rfl) _, P1'.out.on ((Kept.refl rb w9.heap.size w9).setCell (Or.inr rfl) _) (fun b h9 => by have := ((HS0.out b).1 h9).1; have := rbw.out; omega)⟩
      case measure => simp [intOf]; omega
end Go.Proofs.Ytfmekmbdienbjaa
