/- The contract of Bracket of charset. -/
import Derived.Test.YtfmekmbdienbjaaSetL
namespace Go.Proofs.Ytfmekmbdienbjaa
set_option linter.unusedSimpArgs false
set_option linter.unusedVariables false
set_option linter.unnecessarySimpa false
open Go.RowKit

/-- What a bracket expression's set is: with ^ in front what isn't in it. -/
def turnP (o : Bool) (p : Nat → Bool) : Nat → Bool := if o = true then (fun x => !p x) else p
/-- How Bracket ends. -/
def EndB (o : Bool) (k : Nat) (R : MR) (w : World) (e : Ending) (w' : World) : Prop :=
  match R with
  | .ok p n => e = .returned (.tuple #[setV (turnP o p), .int .i64 ((n : Int) + 1 - (k : Int)), .nilIface]) ∧ Below w.heap.size w w'
  | .bad a c => BadR w e w' a c
theorem setV_non : setV nonP = zeroV := by unfold setV; rw [nonP_A]

set_option maxRecDepth 100000 in
set_option maxHeartbeats 16000000 in
theorem brk_f {v : Value} {l : List UInt8} {w : World} (h : BS w v l) (hl : l.length ≤ 1000000000) (hM : HM w) (k : Nat) (hk : isL l k 91 = true) (ho : isL l (k + 1) 94 = false) (R : MR) (hR : RunB l (k + 1) true nonP R) :
    Calls Try.prog 30 #[v, .int .i64 (k : Int)] w fun e w' => EndB false k R w e w' := by
  have H := Lib.hid h
  have HMw := Lib.hid hM
  have hkl := isL_lt hk
  have hlt : k < l.length := hkl.1
  obtain ⟨p0, cp, rfl, hlc, hcm, hU⟩ := h
  obtain ⟨bk, off, rfl, hbb, hcs⟩ := hU (by rintro rfl; simp at hlt)
  have kc0 := hcs k hlt
  rw [hkl.2, show bv 91 = .int .u8 91 from rfl] at kc0
  clear hcs hU
  obtain ⟨a1, ha1⟩ : ∃ y, y = k + 1 := ⟨_, rfl⟩
  obtain ⟨a2, ha2⟩ : ∃ y, y = k + 2 := ⟨_, rfl⟩
  have wA : IntKind.i64.wrap ((k : Int) + 1) = (a1 : Int) := by rw [IntKind.wrap_i64]; omega
  have wB : IntKind.i64.wrap ((a1 : Int) + 1) = (a2 : Int) := by rw [IntKind.wrap_i64]; omega
  have hlt' : (k : Int) < (l.length : Int) := by omega
  have hlt2 : decide (l.length ≤ k) = false := decide_eq_false (by omega)
  have hge : (0 : Int) ≤ (k : Int) := by omega
  have hge' : ¬ (k : Int) < 0 := by omega
  have hst : a1 ≤ l.length := by omega
  have I94 : Hid (∀ W, Below w.heap.size w W → Calls Try.prog 35 #[.slice (some ⟨bk, off, none⟩) l.length cp, .int .i64 (a1 : Int), .int .u8 94] W fun e w' => e = .returned (.bool false) ∧ W = w') := fun W hW => by
    have := is_u (H.out.on hW) hl a1 (by omega) 94
    rw [ha1, ho] at this
    rw [ha1]
    exact this
  have I93 : Hid (∀ n, n ≤ l.length → ∀ W, Below w.heap.size w W → Calls Try.prog 35 #[.slice (some ⟨bk, off, none⟩) l.length cp, .int .i64 (n : Int), .int .u8 93] W fun e w' => e = .returned (.bool (isL l n 93)) ∧ W = w') := fun n hn W hW => is_u (H.out.on hW) hl n (by omega) 93
  have MO : Hid (∀ n P m, n ≤ l.length → memM l n = .ok P m → ∀ W, Below w.heap.size w W → Calls Try.prog 36 #[.slice (some ⟨bk, off, none⟩) l.length cp, .int .i64 (n : Int)] W fun e w' => e = .returned (.tuple #[setV P, .int .i64 (m : Int), .nilIface]) ∧ Below W.heap.size W w') := fun n P m hn hm W hW => mem_ok (H.out.on hW) hl (HMw.out.on hW) n hn hm
  have MB : Hid (∀ n x c, n ≤ l.length → memM l n = .bad x c → ∀ W, Below w.heap.size w W → Calls Try.prog 36 #[.slice (some ⟨bk, off, none⟩) l.length cp, .int .i64 (n : Int)] W fun e w' => BadR W e w' x c) := fun n x c hn hm W hW => mem_bad (H.out.on hW) hl (HMw.out.on hW) n hn hm
  have hR0 : Hid (RunB l a1 true nonP R) := by show RunB _ _ _ _ _; rw [ha1]; exact hR
  have HZ : Hid (setA nonP = zA) := nonP_A
  clear hR ho hk hkl hM
  have hka : a1 ≤ 1000000001 ∧ a2 ≤ 1000000002 := by omega
  have hk9 : k ≤ 1000000000 := by omega
  clear ha1 ha2
  go_enter Try.func30, Try.ntmps30
  go_upto_region 1 with fail
  have kc : (w.alloc (.cells zA 26)).cell? ⟨bk, off + k, none⟩ = some (.int .u8 91) := by rw [World.cell?_alloc_lt _ _ ⟨bk, off + k, none⟩ hbb]; exact kc0
  have r1 : Hid (Row (w.alloc (.cells zA 26)) w.heap.size 26 (setA nonP)) := by show Row _ _ _ _; rw [HZ.out]; exact Row.new w _ _
  have hB1 : Hid (Below w.heap.size w (w.alloc (.cells zA 26))) := by show Below _ _ _; repeat (first | (with_reducible exact Below.refl _ _) | (with_reducible refine Below.drew ?_) | (refine Below.setCell ?_ (by first | exact Nat.le_refl _ | (simp; done) | (simp; omega) | omega) _) | (refine Below.alloc ?_ (by first | exact Nat.le_refl _ | (simp; done) | (simp; omega) | omega) _) | (refine Below.trans ?_ (Below.mono (by assumption) (by first | exact Nat.le_refl _ | (simp; done) | (simp; omega) | omega))))
  clear kc0
  generalize (w.alloc (.cells zA 26)) = w1 at *
  go_wp2_with fail
  refine (I94.out _ hB1.out).mono ?_; rintro e w' ⟨rfl, rfl⟩; (try dsimp only)
  clear kc
  go_wp2_with fail
  go_loopw [9] (fun nx wr => ∃ (n : Nat) (f : Bool) (p : Nat → Bool), nx = .int .i64 (n : Int) ∧ ((f = true ∧ n = a1) ∨ (f = false ∧ a1 < n)) ∧ n ≤ l.length ∧ Hid (RunB l n f p R) ∧ Row wr w.heap.size 26 (setA p) ∧ Below w.heap.size w wr) (fun nx _ => l.length - (intOf nx).toNat)
  case atStart => exact ⟨a1, true, nonP, rfl, Or.inl ⟨rfl, rfl⟩, hst, hR0.out, r1.out, hB1.out⟩
  case round =>
    obtain ⟨n, f, p, rfl, hf, hn, hrun, r, hB⟩ := hrel
    have hi := I93.out n hn
    have HBn := Lib.hid hB
    rcases runB_inv hrun.out with ⟨rfl, hs, rfl⟩ | ⟨hgo, hcase⟩
    · rw [hs] at hi
      have hi := Lib.hid hi
      have hn2 : a1 < n := by rcases hf with ⟨h, _⟩ | ⟨_, h⟩; cases h; exact h
      have t0 : ((n : Int) == (a1 : Int)) = false := by rw [beq_eq_false_iff_ne]; omega
      have wC : IntKind.i64.wrap ((n : Int) + 1) = (n : Int) + 1 := by rw [IntKind.wrap_i64]; omega
      have wD : IntKind.i64.wrap ((n : Int) + 1 - (k : Int)) = (n : Int) + 1 - (k : Int) := by rw [IntKind.wrap_i64]; omega
      obtain ⟨k0, k1, k2, k3, f0, f1, f2, f3, z0⟩ := r.four
      clear hf hrun hs MO MB I93 I94 hR0 H HMw
      go_wp2_with (go_at_call 35; refine (hi.out _ HBn.out).mono ?_; rintro e w' ⟨rfl, rfl⟩)
      refine bodyPost_ret (v := .tuple #[setV p, .int .i64 ((n : Int) + 1 - (k : Int)), .nilIface]) (by simp [results, Try.results30, go_sem, *]) rfl ⟨rfl, ?_⟩
      repeat (first | (with_reducible exact Below.refl _ _) | (with_reducible refine Below.drew ?_) | (refine Below.setCell ?_ (by first | exact Nat.le_refl _ | (simp; done) | (simp; omega) | omega) _) | (refine Below.alloc ?_ (by first | exact Nat.le_refl _ | (simp; done) | (simp; omega) | omega) _) | (refine Below.trans ?_ (Below.mono (by assumption) (by first | exact Nat.le_refl _ | (simp; done) | (simp; omega) | omega))))
    · have hca : (((n : Int) == (a1 : Int)) = true) ∨ (((n : Int) == (a1 : Int)) = false ∧ isL l n 93 = false) := by
        rcases hf with ⟨_, h⟩ | ⟨hf0, h⟩
        · exact Or.inl (by rw [h]; simp)
        · refine Or.inr ⟨by rw [beq_eq_false_iff_ne]; omega, ?_⟩
          rcases hgo with h1 | h1
          · rw [hf0] at h1; cases h1
          · exact h1
      have HC := Lib.hid hcase
      have hst2 : a1 ≤ n := by rcases hf with ⟨_, h⟩ | ⟨_, h⟩ <;> omega
      have r0 : Hid (Row (wr.alloc (.cells zA 26)) w.heap.size 26 (setA p)) := r.alloc _
      have rn : Hid (Row (wr.alloc (.cells zA 26)) wr.heap.size 26 zA) := Row.new wr _ _
      have hBa : Hid (Below w.heap.size w (wr.alloc (.cells zA 26))) := hB.alloc hB.size _
      have hne : Hid (w.heap.size ≠ wr.heap.size) := Nat.ne_of_lt r.lt
      clear hcase hf hgo hrun r hB I94 hR0 H HMw
      rcases hca with t0 | ⟨t0, hs⟩
      · clear hi
        rcases HC.out with ⟨x, c, hm, rfl⟩ | ⟨q, m, hm, hrun2⟩
        · have mb := Lib.hid (MB.out n x c hn hm)
          clear hm HC MO MB
          go_wp2_with fail
          refine (mb.out _ hBa.out).mono ?_
          rintro e w2 ⟨b, rfl, hbl, hrow, hb2⟩
          (try dsimp only)
          have hrow' := Lib.hid hrow
          clear hrow
          have ra := r0.out.on hb2
          have rb := rn.out.on hb2
          have hB2 : Below w.heap.size w w2 := hBa.out.trans (hb2.mono hBa.out.size)
          have hbB : w.heap.size < b := Nat.lt_of_lt_of_le r0.out.lt hbl
          have hbB2 : wr.heap.size < b := Nat.lt_of_lt_of_le rn.out.lt hbl
          obtain ⟨k0, k1, k2, k3, f0, f1, f2, f3, z0⟩ := ra.four
          obtain ⟨m0, m1, m2, m3, g0, g1, g2, g3, y0⟩ := rb.four
          have hsz := HBn.out.size
          have hne1 := hne.out
          have hne2 : wr.heap.size ≠ w.heap.size := fun h => hne.out h.symm
          clear hb2 rb
          go_upto_region 11 with fail
          have rc : Row ((((w2.setCell ⟨wr.heap.size, 0, none⟩ (.int .u64 0)).setCell ⟨wr.heap.size, 1, none⟩ (.int .u64 0)).setCell ⟨wr.heap.size, 2, none⟩ (.int .u64 0)).setCell ⟨wr.heap.size, 3, none⟩ (.int .u64 0)) w.heap.size 26 (setA p) := (((ra.far hne1 _).far hne1 _).far hne1 _).far hne1 _
          have hbn : b ≠ wr.heap.size := by omega
          have hrw : Hid (Row ((((w2.setCell ⟨wr.heap.size, 0, none⟩ (.int .u64 0)).setCell ⟨wr.heap.size, 1, none⟩ (.int .u64 0)).setCell ⟨wr.heap.size, 2, none⟩ (.int .u64 0)).setCell ⟨wr.heap.size, 3, none⟩ (.int .u64 0)) b 49 #[.int .i64 (x : Int), .iface 41 (.int .i64 (c : Int))]) := (((hrow'.out.far hbn _).far hbn _).far hbn _).far hbn _
          have hB3 : Below w.heap.size w ((((w2.setCell ⟨wr.heap.size, 0, none⟩ (.int .u64 0)).setCell ⟨wr.heap.size, 1, none⟩ (.int .u64 0)).setCell ⟨wr.heap.size, 2, none⟩ (.int .u64 0)).setCell ⟨wr.heap.size, 3, none⟩ (.int .u64 0)) := by repeat (first | (with_reducible exact Below.refl _ _) | (with_reducible refine Below.drew ?_) | (refine Below.setCell ?_ (by first | exact Nat.le_refl _ | (simp; done) | (simp; omega) | omega) _) | (refine Below.alloc ?_ (by first | exact Nat.le_refl _ | (simp; done) | (simp; omega) | omega) _) | (refine Below.trans ?_ (Below.mono (by assumption) (by first | exact Nat.le_refl _ | (simp; done) | (simp; omega) | omega))))
          clear k0 k1 k2 k3 f0 f1 f2 f3 z0 m0 m1 m2 m3 g0 g1 g2 g3 y0 ra hrow'
          generalize ((((w2.setCell ⟨wr.heap.size, 0, none⟩ (.int .u64 0)).setCell ⟨wr.heap.size, 1, none⟩ (.int .u64 0)).setCell ⟨wr.heap.size, 2, none⟩ (.int .u64 0)).setCell ⟨wr.heap.size, 3, none⟩ (.int .u64 0)) = w3 at *
          obtain ⟨k0, k1, k2, k3, f0, f1, f2, f3, z0⟩ := rc.four
          clear rc
          go_wp2
          refine bodyPost_ret (v := .tuple #[zeroV, .int .i64 0, .iface 47 (.pointer (some ⟨b, 0, none⟩))]) (by simp [results, Try.results30, go_sem, *]) rfl ?_
          have hbn2 : b ≠ w.heap.size := by omega
          refine ⟨b, rfl, Nat.le_of_lt hbB, (((hrw.out.far hbn2 _).far hbn2 _).far hbn2 _).far hbn2 _, ?_⟩
          repeat (first | (with_reducible exact Below.refl _ _) | (with_reducible refine Below.drew ?_) | (refine Below.setCell ?_ (by first | exact Nat.le_refl _ | (simp; done) | (simp; omega) | omega) _) | (refine Below.alloc ?_ (by first | exact Nat.le_refl _ | (simp; done) | (simp; omega) | omega) _) | (refine Below.trans ?_ (Below.mono (by assumption) (by first | exact Nat.le_refl _ | (simp; done) | (simp; omega) | omega))))
        · have mo := Lib.hid (MO.out n q m hn hm)
          have hadv := memM_adv hm
          have HR2 := Lib.hid hrun2
          clear hm HC MO MB hrun2
          obtain ⟨P, hP⟩ : ∃ P : Nat → Bool, P = fun x => p x || q x := ⟨_, rfl⟩
          have OR : Hid (∀ W, Calls Try.prog 37 #[setV p, setV q] W fun e w' => e = .returned (setV P) ∧ Below W.heap.size W w') := fun W => or_x p q P hP W
          rw [← hP] at HR2
          clear hP
          go_wp2_with fail
          refine (mo.out _ hBa.out).mono ?_
          rintro e w2 ⟨rfl, hb2⟩
          (try dsimp only)
          have ra := r0.out.on hb2
          have rb := rn.out.on hb2
          have hB2 : Below w.heap.size w w2 := hBa.out.trans (hb2.mono hBa.out.size)
          have hsz := HBn.out.size
          have hne1 := hne.out
          have hne2 : wr.heap.size ≠ w.heap.size := fun h => hne.out h.symm
          obtain ⟨k0, k1, k2, k3, f0, f1, f2, f3, z0⟩ := ra.four
          obtain ⟨m0, m1, m2, m3, g0, g1, g2, g3, y0⟩ := rb.four
          clear hb2 rb
          go_wp2_with fail
          have rc : Row ((((w2.setCell ⟨wr.heap.size, 0, none⟩ (.int .u64 ((wd q 0 : Nat) : Int))).setCell ⟨wr.heap.size, 1, none⟩ (.int .u64 ((wd q 1 : Nat) : Int))).setCell ⟨wr.heap.size, 2, none⟩ (.int .u64 ((wd q 2 : Nat) : Int))).setCell ⟨wr.heap.size, 3, none⟩ (.int .u64 ((wd q 3 : Nat) : Int))) w.heap.size 26 (setA p) := (((ra.far hne1 _).far hne1 _).far hne1 _).far hne1 _
          have hB3 : Below w.heap.size w ((((w2.setCell ⟨wr.heap.size, 0, none⟩ (.int .u64 ((wd q 0 : Nat) : Int))).setCell ⟨wr.heap.size, 1, none⟩ (.int .u64 ((wd q 1 : Nat) : Int))).setCell ⟨wr.heap.size, 2, none⟩ (.int .u64 ((wd q 2 : Nat) : Int))).setCell ⟨wr.heap.size, 3, none⟩ (.int .u64 ((wd q 3 : Nat) : Int))) := by repeat (first | (with_reducible exact Below.refl _ _) | (with_reducible refine Below.drew ?_) | (refine Below.setCell ?_ (by first | exact Nat.le_refl _ | (simp; done) | (simp; omega) | omega) _) | (refine Below.alloc ?_ (by first | exact Nat.le_refl _ | (simp; done) | (simp; omega) | omega) _) | (refine Below.trans ?_ (Below.mono (by assumption) (by first | exact Nat.le_refl _ | (simp; done) | (simp; omega) | omega))))
          clear k0 k1 k2 k3 f0 f1 f2 f3 z0 m0 m1 m2 m3 g0 g1 g2 g3 y0 ra
          generalize ((((w2.setCell ⟨wr.heap.size, 0, none⟩ (.int .u64 ((wd q 0 : Nat) : Int))).setCell ⟨wr.heap.size, 1, none⟩ (.int .u64 ((wd q 1 : Nat) : Int))).setCell ⟨wr.heap.size, 2, none⟩ (.int .u64 ((wd q 2 : Nat) : Int))).setCell ⟨wr.heap.size, 3, none⟩ (.int .u64 ((wd q 3 : Nat) : Int))) = w3 at *
          refine (OR.out _).mono ?_
          rintro e w4 ⟨rfl, hb4⟩
          (try dsimp only)
          have rd := rc.on hb4
          have hB4 : Below w.heap.size w w4 := hB3.trans (hb4.mono hB3.size)
          obtain ⟨k0, k1, k2, k3, f0, f1, f2, f3, z0⟩ := rd.four
          clear hb4 rc hB3
          go_wp2
          go_roundw
          case rel =>
            refine ⟨m, false, P, by go_num, Or.inr ⟨rfl, by omega⟩, hadv.2, HR2.out, ?_, ?_⟩
            · exact (((rd.set 0 _).set 1 _).set 2 _).set 3 _
            · repeat (first | (with_reducible exact Below.refl _ _) | (with_reducible refine Below.drew ?_) | (refine Below.setCell ?_ (by first | exact Nat.le_refl _ | (simp; done) | (simp; omega) | omega) _) | (refine Below.alloc ?_ (by first | exact Nat.le_refl _ | (simp; done) | (simp; omega) | omega) _) | (refine Below.trans ?_ (Below.mono (by assumption) (by first | exact Nat.le_refl _ | (simp; done) | (simp; omega) | omega))))
          case measure => simp [intOf]; omega
      · rw [hs] at hi
        have hi := Lib.hid hi
        clear hs
        rcases HC.out with ⟨x, c, hm, rfl⟩ | ⟨q, m, hm, hrun2⟩
        · have mb := Lib.hid (MB.out n x c hn hm)
          clear hm HC MO MB
          go_wp2_with fail
          refine (hi.out _ HBn.out).mono ?_; rintro e w' ⟨rfl, rfl⟩; (try dsimp only)
          go_wp2_with fail
          refine (mb.out _ hBa.out).mono ?_
          rintro e w2 ⟨b, rfl, hbl, hrow, hb2⟩
          (try dsimp only)
          have hrow' := Lib.hid hrow
          clear hrow
          have ra := r0.out.on hb2
          have rb := rn.out.on hb2
          have hB2 : Below w.heap.size w w2 := hBa.out.trans (hb2.mono hBa.out.size)
          have hbB : w.heap.size < b := Nat.lt_of_lt_of_le r0.out.lt hbl
          have hbB2 : wr.heap.size < b := Nat.lt_of_lt_of_le rn.out.lt hbl
          obtain ⟨k0, k1, k2, k3, f0, f1, f2, f3, z0⟩ := ra.four
          obtain ⟨m0, m1, m2, m3, g0, g1, g2, g3, y0⟩ := rb.four
          have hsz := HBn.out.size
          have hne1 := hne.out
          have hne2 : wr.heap.size ≠ w.heap.size := fun h => hne.out h.symm
          clear hb2 rb
          go_upto_region 11 with fail
          have rc : Row ((((w2.setCell ⟨wr.heap.size, 0, none⟩ (.int .u64 0)).setCell ⟨wr.heap.size, 1, none⟩ (.int .u64 0)).setCell ⟨wr.heap.size, 2, none⟩ (.int .u64 0)).setCell ⟨wr.heap.size, 3, none⟩ (.int .u64 0)) w.heap.size 26 (setA p) := (((ra.far hne1 _).far hne1 _).far hne1 _).far hne1 _
          have hbn : b ≠ wr.heap.size := by omega
          have hrw : Hid (Row ((((w2.setCell ⟨wr.heap.size, 0, none⟩ (.int .u64 0)).setCell ⟨wr.heap.size, 1, none⟩ (.int .u64 0)).setCell ⟨wr.heap.size, 2, none⟩ (.int .u64 0)).setCell ⟨wr.heap.size, 3, none⟩ (.int .u64 0)) b 49 #[.int .i64 (x : Int), .iface 41 (.int .i64 (c : Int))]) := (((hrow'.out.far hbn _).far hbn _).far hbn _).far hbn _
          have hB3 : Below w.heap.size w ((((w2.setCell ⟨wr.heap.size, 0, none⟩ (.int .u64 0)).setCell ⟨wr.heap.size, 1, none⟩ (.int .u64 0)).setCell ⟨wr.heap.size, 2, none⟩ (.int .u64 0)).setCell ⟨wr.heap.size, 3, none⟩ (.int .u64 0)) := by repeat (first | (with_reducible exact Below.refl _ _) | (with_reducible refine Below.drew ?_) | (refine Below.setCell ?_ (by first | exact Nat.le_refl _ | (simp; done) | (simp; omega) | omega) _) | (refine Below.alloc ?_ (by first | exact Nat.le_refl _ | (simp; done) | (simp; omega) | omega) _) | (refine Below.trans ?_ (Below.mono (by assumption) (by first | exact Nat.le_refl _ | (simp; done) | (simp; omega) | omega))))
          clear k0 k1 k2 k3 f0 f1 f2 f3 z0 m0 m1 m2 m3 g0 g1 g2 g3 y0 ra hrow'
          generalize ((((w2.setCell ⟨wr.heap.size, 0, none⟩ (.int .u64 0)).setCell ⟨wr.heap.size, 1, none⟩ (.int .u64 0)).setCell ⟨wr.heap.size, 2, none⟩ (.int .u64 0)).setCell ⟨wr.heap.size, 3, none⟩ (.int .u64 0)) = w3 at *
          obtain ⟨k0, k1, k2, k3, f0, f1, f2, f3, z0⟩ := rc.four
          clear rc
          go_wp2
          refine bodyPost_ret (v := .tuple #[zeroV, .int .i64 0, .iface 47 (.pointer (some ⟨b, 0, none⟩))]) (by simp [results, Try.results30, go_sem, *]) rfl ?_
          have hbn2 : b ≠ w.heap.size := by omega
          refine ⟨b, rfl, Nat.le_of_lt hbB, (((hrw.out.far hbn2 _).far hbn2 _).far hbn2 _).far hbn2 _, ?_⟩
          repeat (first | (with_reducible exact Below.refl _ _) | (with_reducible refine Below.drew ?_) | (refine Below.setCell ?_ (by first | exact Nat.le_refl _ | (simp; done) | (simp; omega) | omega) _) | (refine Below.alloc ?_ (by first | exact Nat.le_refl _ | (simp; done) | (simp; omega) | omega) _) | (refine Below.trans ?_ (Below.mono (by assumption) (by first | exact Nat.le_refl _ | (simp; done) | (simp; omega) | omega))))
        · have mo := Lib.hid (MO.out n q m hn hm)
          have hadv := memM_adv hm
          have HR2 := Lib.hid hrun2
          clear hm HC MO MB hrun2
          obtain ⟨P, hP⟩ : ∃ P : Nat → Bool, P = fun x => p x || q x := ⟨_, rfl⟩
          have OR : Hid (∀ W, Calls Try.prog 37 #[setV p, setV q] W fun e w' => e = .returned (setV P) ∧ Below W.heap.size W w') := fun W => or_x p q P hP W
          rw [← hP] at HR2
          clear hP
          go_wp2_with fail
          refine (hi.out _ HBn.out).mono ?_; rintro e w' ⟨rfl, rfl⟩; (try dsimp only)
          go_wp2_with fail
          refine (mo.out _ hBa.out).mono ?_
          rintro e w2 ⟨rfl, hb2⟩
          (try dsimp only)
          have ra := r0.out.on hb2
          have rb := rn.out.on hb2
          have hB2 : Below w.heap.size w w2 := hBa.out.trans (hb2.mono hBa.out.size)
          have hsz := HBn.out.size
          have hne1 := hne.out
          have hne2 : wr.heap.size ≠ w.heap.size := fun h => hne.out h.symm
          obtain ⟨k0, k1, k2, k3, f0, f1, f2, f3, z0⟩ := ra.four
          obtain ⟨m0, m1, m2, m3, g0, g1, g2, g3, y0⟩ := rb.four
          clear hb2 rb
          go_wp2_with fail
          have rc : Row ((((w2.setCell ⟨wr.heap.size, 0, none⟩ (.int .u64 ((wd q 0 : Nat) : Int))).setCell ⟨wr.heap.size, 1, none⟩ (.int .u64 ((wd q 1 : Nat) : Int))).setCell ⟨wr.heap.size, 2, none⟩ (.int .u64 ((wd q 2 : Nat) : Int))).setCell ⟨wr.heap.size, 3, none⟩ (.int .u64 ((wd q 3 : Nat) : Int))) w.heap.size 26 (setA p) := (((ra.far hne1 _).far hne1 _).far hne1 _).far hne1 _
          have hB3 : Below w.heap.size w ((((w2.setCell ⟨wr.heap.size, 0, none⟩ (.int .u64 ((wd q 0 : Nat) : Int))).setCell ⟨wr.heap.size, 1, none⟩ (.int .u64 ((wd q 1 : Nat) : Int))).setCell ⟨wr.heap.size, 2, none⟩ (.int .u64 ((wd q 2 : Nat) : Int))).setCell ⟨wr.heap.size, 3, none⟩ (.int .u64 ((wd q 3 : Nat) : Int))) := by repeat (first | (with_reducible exact Below.refl _ _) | (with_reducible refine Below.drew ?_) | (refine Below.setCell ?_ (by first | exact Nat.le_refl _ | (simp; done) | (simp; omega) | omega) _) | (refine Below.alloc ?_ (by first | exact Nat.le_refl _ | (simp; done) | (simp; omega) | omega) _) | (refine Below.trans ?_ (Below.mono (by assumption) (by first | exact Nat.le_refl _ | (simp; done) | (simp; omega) | omega))))
          clear k0 k1 k2 k3 f0 f1 f2 f3 z0 m0 m1 m2 m3 g0 g1 g2 g3 y0 ra
          generalize ((((w2.setCell ⟨wr.heap.size, 0, none⟩ (.int .u64 ((wd q 0 : Nat) : Int))).setCell ⟨wr.heap.size, 1, none⟩ (.int .u64 ((wd q 1 : Nat) : Int))).setCell ⟨wr.heap.size, 2, none⟩ (.int .u64 ((wd q 2 : Nat) : Int))).setCell ⟨wr.heap.size, 3, none⟩ (.int .u64 ((wd q 3 : Nat) : Int))) = w3 at *
          refine (OR.out _).mono ?_
          rintro e w4 ⟨rfl, hb4⟩
          (try dsimp only)
          have rd := rc.on hb4
          have hB4 : Below w.heap.size w w4 := hB3.trans (hb4.mono hB3.size)
          obtain ⟨k0, k1, k2, k3, f0, f1, f2, f3, z0⟩ := rd.four
          clear hb4 rc hB3
          go_wp2
          go_roundw
          case rel =>
            refine ⟨m, false, P, by go_num, Or.inr ⟨rfl, by omega⟩, hadv.2, HR2.out, ?_, ?_⟩
            · exact (((rd.set 0 _).set 1 _).set 2 _).set 3 _
            · repeat (first | (with_reducible exact Below.refl _ _) | (with_reducible refine Below.drew ?_) | (refine Below.setCell ?_ (by first | exact Nat.le_refl _ | (simp; done) | (simp; omega) | omega) _) | (refine Below.alloc ?_ (by first | exact Nat.le_refl _ | (simp; done) | (simp; omega) | omega) _) | (refine Below.trans ?_ (Below.mono (by assumption) (by first | exact Nat.le_refl _ | (simp; done) | (simp; omega) | omega))))
          case measure => simp [intOf]; omega
set_option maxRecDepth 100000 in
set_option maxHeartbeats 16000000 in
theorem brk_t {v : Value} {l : List UInt8} {w : World} (h : BS w v l) (hl : l.length ≤ 1000000000) (hM : HM w) (k : Nat) (hk : isL l k 91 = true) (ho : isL l (k + 1) 94 = true) (R : MR) (hR : RunB l (k + 2) true nonP R) :
    Calls Try.prog 30 #[v, .int .i64 (k : Int)] w fun e w' => EndB true k R w e w' := by
  have H := Lib.hid h
  have HMw := Lib.hid hM
  have hkl := isL_lt hk
  have hlt : k < l.length := hkl.1
  obtain ⟨p0, cp, rfl, hlc, hcm, hU⟩ := h
  obtain ⟨bk, off, rfl, hbb, hcs⟩ := hU (by rintro rfl; simp at hlt)
  have kc0 := hcs k hlt
  rw [hkl.2, show bv 91 = .int .u8 91 from rfl] at kc0
  clear hcs hU
  obtain ⟨a1, ha1⟩ : ∃ y, y = k + 1 := ⟨_, rfl⟩
  obtain ⟨a2, ha2⟩ : ∃ y, y = k + 2 := ⟨_, rfl⟩
  have wA : IntKind.i64.wrap ((k : Int) + 1) = (a1 : Int) := by rw [IntKind.wrap_i64]; omega
  have wB : IntKind.i64.wrap ((a1 : Int) + 1) = (a2 : Int) := by rw [IntKind.wrap_i64]; omega
  have hlt' : (k : Int) < (l.length : Int) := by omega
  have hlt2 : decide (l.length ≤ k) = false := decide_eq_false (by omega)
  have hge : (0 : Int) ≤ (k : Int) := by omega
  have hge' : ¬ (k : Int) < 0 := by omega
  have hst : a2 ≤ l.length := by have := (isL_lt ho).1; omega
  have I94 : Hid (∀ W, Below w.heap.size w W → Calls Try.prog 35 #[.slice (some ⟨bk, off, none⟩) l.length cp, .int .i64 (a1 : Int), .int .u8 94] W fun e w' => e = .returned (.bool true) ∧ W = w') := fun W hW => by
    have := is_u (H.out.on hW) hl a1 (by omega) 94
    rw [ha1, ho] at this
    rw [ha1]
    exact this
  have I93 : Hid (∀ n, n ≤ l.length → ∀ W, Below w.heap.size w W → Calls Try.prog 35 #[.slice (some ⟨bk, off, none⟩) l.length cp, .int .i64 (n : Int), .int .u8 93] W fun e w' => e = .returned (.bool (isL l n 93)) ∧ W = w') := fun n hn W hW => is_u (H.out.on hW) hl n (by omega) 93
  have MO : Hid (∀ n P m, n ≤ l.length → memM l n = .ok P m → ∀ W, Below w.heap.size w W → Calls Try.prog 36 #[.slice (some ⟨bk, off, none⟩) l.length cp, .int .i64 (n : Int)] W fun e w' => e = .returned (.tuple #[setV P, .int .i64 (m : Int), .nilIface]) ∧ Below W.heap.size W w') := fun n P m hn hm W hW => mem_ok (H.out.on hW) hl (HMw.out.on hW) n hn hm
  have MB : Hid (∀ n x c, n ≤ l.length → memM l n = .bad x c → ∀ W, Below w.heap.size w W → Calls Try.prog 36 #[.slice (some ⟨bk, off, none⟩) l.length cp, .int .i64 (n : Int)] W fun e w' => BadR W e w' x c) := fun n x c hn hm W hW => mem_bad (H.out.on hW) hl (HMw.out.on hW) n hn hm
  have hR0 : Hid (RunB l a2 true nonP R) := by show RunB _ _ _ _ _; rw [ha2]; exact hR
  have HZ : Hid (setA nonP = zA) := nonP_A
  clear hR ho hk hkl hM
  have hka : a1 ≤ 1000000001 ∧ a2 ≤ 1000000002 := by omega
  have hk9 : k ≤ 1000000000 := by omega
  clear ha1 ha2
  go_enter Try.func30, Try.ntmps30
  go_upto_region 1 with fail
  have kc : (w.alloc (.cells zA 26)).cell? ⟨bk, off + k, none⟩ = some (.int .u8 91) := by rw [World.cell?_alloc_lt _ _ ⟨bk, off + k, none⟩ hbb]; exact kc0
  have r1 : Hid (Row (w.alloc (.cells zA 26)) w.heap.size 26 (setA nonP)) := by show Row _ _ _ _; rw [HZ.out]; exact Row.new w _ _
  have hB1 : Hid (Below w.heap.size w (w.alloc (.cells zA 26))) := by show Below _ _ _; repeat (first | (with_reducible exact Below.refl _ _) | (with_reducible refine Below.drew ?_) | (refine Below.setCell ?_ (by first | exact Nat.le_refl _ | (simp; done) | (simp; omega) | omega) _) | (refine Below.alloc ?_ (by first | exact Nat.le_refl _ | (simp; done) | (simp; omega) | omega) _) | (refine Below.trans ?_ (Below.mono (by assumption) (by first | exact Nat.le_refl _ | (simp; done) | (simp; omega) | omega))))
  clear kc0
  generalize (w.alloc (.cells zA 26)) = w1 at *
  go_wp2_with fail
  refine (I94.out _ hB1.out).mono ?_; rintro e w' ⟨rfl, rfl⟩; (try dsimp only)
  clear kc
  go_wp2_with fail
  go_loopw [9] (fun nx wr => ∃ (n : Nat) (f : Bool) (p : Nat → Bool), nx = .int .i64 (n : Int) ∧ ((f = true ∧ n = a2) ∨ (f = false ∧ a2 < n)) ∧ n ≤ l.length ∧ Hid (RunB l n f p R) ∧ Row wr w.heap.size 26 (setA p) ∧ Below w.heap.size w wr) (fun nx _ => l.length - (intOf nx).toNat)
  case atStart => exact ⟨a2, true, nonP, rfl, Or.inl ⟨rfl, rfl⟩, hst, hR0.out, r1.out, hB1.out⟩
  case round =>
    obtain ⟨n, f, p, rfl, hf, hn, hrun, r, hB⟩ := hrel
    have hi := I93.out n hn
    have HBn := Lib.hid hB
    rcases runB_inv hrun.out with ⟨rfl, hs, rfl⟩ | ⟨hgo, hcase⟩
    · rw [hs] at hi
      have hi := Lib.hid hi
      have hn2 : a2 < n := by rcases hf with ⟨h, _⟩ | ⟨_, h⟩; cases h; exact h
      have t0 : ((n : Int) == (a2 : Int)) = false := by rw [beq_eq_false_iff_ne]; omega
      have wC : IntKind.i64.wrap ((n : Int) + 1) = (n : Int) + 1 := by rw [IntKind.wrap_i64]; omega
      have wD : IntKind.i64.wrap ((n : Int) + 1 - (k : Int)) = (n : Int) + 1 - (k : Int) := by rw [IntKind.wrap_i64]; omega
      obtain ⟨k0, k1, k2, k3, f0, f1, f2, f3, z0⟩ := r.four
      clear hf hrun hs MO MB I93 I94 hR0 H HMw
      go_wp2_with fail
      refine (hi.out _ HBn.out).mono ?_; rintro e w' ⟨rfl, rfl⟩; (try dsimp only)
      go_wp2_with fail
      refine (not_u p _).mono ?_; rintro e w2 ⟨rfl, hb2⟩; (try dsimp only)
      have r2 := r.on hb2
      have hB2 : Below w.heap.size w w2 := hB.trans (hb2.mono hB.size)
      clear k0 k1 k2 k3 f0 f1 f2 f3 z0 hb2
      obtain ⟨k0, k1, k2, k3, f0, f1, f2, f3, z0⟩ := r2.four
      go_upto_region 16 with fail
      have r3 : Row ((((w2.setCell ⟨w.heap.size, 0, none⟩ (.int .u64 ((wd (fun x => !p x) 0 : Nat) : Int))).setCell ⟨w.heap.size, 1, none⟩ (.int .u64 ((wd (fun x => !p x) 1 : Nat) : Int))).setCell ⟨w.heap.size, 2, none⟩ (.int .u64 ((wd (fun x => !p x) 2 : Nat) : Int))).setCell ⟨w.heap.size, 3, none⟩ (.int .u64 ((wd (fun x => !p x) 3 : Nat) : Int))) w.heap.size 26 (setA (fun x => !p x)) := (((r2.set 0 _).set 1 _).set 2 _).set 3 _
      have hB3 : Below w.heap.size w ((((w2.setCell ⟨w.heap.size, 0, none⟩ (.int .u64 ((wd (fun x => !p x) 0 : Nat) : Int))).setCell ⟨w.heap.size, 1, none⟩ (.int .u64 ((wd (fun x => !p x) 1 : Nat) : Int))).setCell ⟨w.heap.size, 2, none⟩ (.int .u64 ((wd (fun x => !p x) 2 : Nat) : Int))).setCell ⟨w.heap.size, 3, none⟩ (.int .u64 ((wd (fun x => !p x) 3 : Nat) : Int))) := by repeat (first | (with_reducible exact Below.refl _ _) | (with_reducible refine Below.drew ?_) | (refine Below.setCell ?_ (by first | exact Nat.le_refl _ | (simp; done) | (simp; omega) | omega) _) | (refine Below.alloc ?_ (by first | exact Nat.le_refl _ | (simp; done) | (simp; omega) | omega) _) | (refine Below.trans ?_ (Below.mono (by assumption) (by first | exact Nat.le_refl _ | (simp; done) | (simp; omega) | omega))))
      clear k0 k1 k2 k3 f0 f1 f2 f3 z0 r2
      generalize ((((w2.setCell ⟨w.heap.size, 0, none⟩ (.int .u64 ((wd (fun x => !p x) 0 : Nat) : Int))).setCell ⟨w.heap.size, 1, none⟩ (.int .u64 ((wd (fun x => !p x) 1 : Nat) : Int))).setCell ⟨w.heap.size, 2, none⟩ (.int .u64 ((wd (fun x => !p x) 2 : Nat) : Int))).setCell ⟨w.heap.size, 3, none⟩ (.int .u64 ((wd (fun x => !p x) 3 : Nat) : Int))) = w3 at *
      obtain ⟨k0, k1, k2, k3, f0, f1, f2, f3, z0⟩ := r3.four
      go_wp2
      refine bodyPost_ret (v := .tuple #[setV (fun x => !p x), .int .i64 ((n : Int) + 1 - (k : Int)), .nilIface]) (by simp [results, Try.results30, go_sem, *]) rfl ⟨rfl, ?_⟩
      repeat (first | (with_reducible exact Below.refl _ _) | (with_reducible refine Below.drew ?_) | (refine Below.setCell ?_ (by first | exact Nat.le_refl _ | (simp; done) | (simp; omega) | omega) _) | (refine Below.alloc ?_ (by first | exact Nat.le_refl _ | (simp; done) | (simp; omega) | omega) _) | (refine Below.trans ?_ (Below.mono (by assumption) (by first | exact Nat.le_refl _ | (simp; done) | (simp; omega) | omega))))
    · have hca : (((n : Int) == (a2 : Int)) = true) ∨ (((n : Int) == (a2 : Int)) = false ∧ isL l n 93 = false) := by
        rcases hf with ⟨_, h⟩ | ⟨hf0, h⟩
        · exact Or.inl (by rw [h]; simp)
        · refine Or.inr ⟨by rw [beq_eq_false_iff_ne]; omega, ?_⟩
          rcases hgo with h1 | h1
          · rw [hf0] at h1; cases h1
          · exact h1
      have HC := Lib.hid hcase
      have hst2 : a2 ≤ n := by rcases hf with ⟨_, h⟩ | ⟨_, h⟩ <;> omega
      have r0 : Hid (Row (wr.alloc (.cells zA 26)) w.heap.size 26 (setA p)) := r.alloc _
      have rn : Hid (Row (wr.alloc (.cells zA 26)) wr.heap.size 26 zA) := Row.new wr _ _
      have hBa : Hid (Below w.heap.size w (wr.alloc (.cells zA 26))) := hB.alloc hB.size _
      have hne : Hid (w.heap.size ≠ wr.heap.size) := Nat.ne_of_lt r.lt
      clear hcase hf hgo hrun r hB I94 hR0 H HMw
      rcases hca with t0 | ⟨t0, hs⟩
      · clear hi
        rcases HC.out with ⟨x, c, hm, rfl⟩ | ⟨q, m, hm, hrun2⟩
        · have mb := Lib.hid (MB.out n x c hn hm)
          clear hm HC MO MB
          go_wp2_with fail
          refine (mb.out _ hBa.out).mono ?_
          rintro e w2 ⟨b, rfl, hbl, hrow, hb2⟩
          (try dsimp only)
          have hrow' := Lib.hid hrow
          clear hrow
          have ra := r0.out.on hb2
          have rb := rn.out.on hb2
          have hB2 : Below w.heap.size w w2 := hBa.out.trans (hb2.mono hBa.out.size)
          have hbB : w.heap.size < b := Nat.lt_of_lt_of_le r0.out.lt hbl
          have hbB2 : wr.heap.size < b := Nat.lt_of_lt_of_le rn.out.lt hbl
          obtain ⟨k0, k1, k2, k3, f0, f1, f2, f3, z0⟩ := ra.four
          obtain ⟨m0, m1, m2, m3, g0, g1, g2, g3, y0⟩ := rb.four
          have hsz := HBn.out.size
          have hne1 := hne.out
          have hne2 : wr.heap.size ≠ w.heap.size := fun h => hne.out h.symm
          clear hb2 rb
          go_upto_region 11 with fail
          have rc : Row ((((w2.setCell ⟨wr.heap.size, 0, none⟩ (.int .u64 0)).setCell ⟨wr.heap.size, 1, none⟩ (.int .u64 0)).setCell ⟨wr.heap.size, 2, none⟩ (.int .u64 0)).setCell ⟨wr.heap.size, 3, none⟩ (.int .u64 0)) w.heap.size 26 (setA p) := (((ra.far hne1 _).far hne1 _).far hne1 _).far hne1 _
          have hbn : b ≠ wr.heap.size := by omega
          have hrw : Hid (Row ((((w2.setCell ⟨wr.heap.size, 0, none⟩ (.int .u64 0)).setCell ⟨wr.heap.size, 1, none⟩ (.int .u64 0)).setCell ⟨wr.heap.size, 2, none⟩ (.int .u64 0)).setCell ⟨wr.heap.size, 3, none⟩ (.int .u64 0)) b 49 #[.int .i64 (x : Int), .iface 41 (.int .i64 (c : Int))]) := (((hrow'.out.far hbn _).far hbn _).far hbn _).far hbn _
          have hB3 : Below w.heap.size w ((((w2.setCell ⟨wr.heap.size, 0, none⟩ (.int .u64 0)).setCell ⟨wr.heap.size, 1, none⟩ (.int .u64 0)).setCell ⟨wr.heap.size, 2, none⟩ (.int .u64 0)).setCell ⟨wr.heap.size, 3, none⟩ (.int .u64 0)) := by repeat (first | (with_reducible exact Below.refl _ _) | (with_reducible refine Below.drew ?_) | (refine Below.setCell ?_ (by first | exact Nat.le_refl _ | (simp; done) | (simp; omega) | omega) _) | (refine Below.alloc ?_ (by first | exact Nat.le_refl _ | (simp; done) | (simp; omega) | omega) _) | (refine Below.trans ?_ (Below.mono (by assumption) (by first | exact Nat.le_refl _ | (simp; done) | (simp; omega) | omega))))
          clear k0 k1 k2 k3 f0 f1 f2 f3 z0 m0 m1 m2 m3 g0 g1 g2 g3 y0 ra hrow'
          generalize ((((w2.setCell ⟨wr.heap.size, 0, none⟩ (.int .u64 0)).setCell ⟨wr.heap.size, 1, none⟩ (.int .u64 0)).setCell ⟨wr.heap.size, 2, none⟩ (.int .u64 0)).setCell ⟨wr.heap.size, 3, none⟩ (.int .u64 0)) = w3 at *
          obtain ⟨k0, k1, k2, k3, f0, f1, f2, f3, z0⟩ := rc.four
          clear rc
          go_wp2
          refine bodyPost_ret (v := .tuple #[zeroV, .int .i64 0, .iface 47 (.pointer (some ⟨b, 0, none⟩))]) (by simp [results, Try.results30, go_sem, *]) rfl ?_
          have hbn2 : b ≠ w.heap.size := by omega
          refine ⟨b, rfl, Nat.le_of_lt hbB, (((hrw.out.far hbn2 _).far hbn2 _).far hbn2 _).far hbn2 _, ?_⟩
          repeat (first | (with_reducible exact Below.refl _ _) | (with_reducible refine Below.drew ?_) | (refine Below.setCell ?_ (by first | exact Nat.le_refl _ | (simp; done) | (simp; omega) | omega) _) | (refine Below.alloc ?_ (by first | exact Nat.le_refl _ | (simp; done) | (simp; omega) | omega) _) | (refine Below.trans ?_ (Below.mono (by assumption) (by first | exact Nat.le_refl _ | (simp; done) | (simp; omega) | omega))))
        · have mo := Lib.hid (MO.out n q m hn hm)
          have hadv := memM_adv hm
          have HR2 := Lib.hid hrun2
          clear hm HC MO MB hrun2
          obtain ⟨P, hP⟩ : ∃ P : Nat → Bool, P = fun x => p x || q x := ⟨_, rfl⟩
          have OR : Hid (∀ W, Calls Try.prog 37 #[setV p, setV q] W fun e w' => e = .returned (setV P) ∧ Below W.heap.size W w') := fun W => or_x p q P hP W
          rw [← hP] at HR2
          clear hP
          go_wp2_with fail
          refine (mo.out _ hBa.out).mono ?_
          rintro e w2 ⟨rfl, hb2⟩
          (try dsimp only)
          have ra := r0.out.on hb2
          have rb := rn.out.on hb2
          have hB2 : Below w.heap.size w w2 := hBa.out.trans (hb2.mono hBa.out.size)
          have hsz := HBn.out.size
          have hne1 := hne.out
          have hne2 : wr.heap.size ≠ w.heap.size := fun h => hne.out h.symm
          obtain ⟨k0, k1, k2, k3, f0, f1, f2, f3, z0⟩ := ra.four
          obtain ⟨m0, m1, m2, m3, g0, g1, g2, g3, y0⟩ := rb.four
          clear hb2 rb
          go_wp2_with fail
          have rc : Row ((((w2.setCell ⟨wr.heap.size, 0, none⟩ (.int .u64 ((wd q 0 : Nat) : Int))).setCell ⟨wr.heap.size, 1, none⟩ (.int .u64 ((wd q 1 : Nat) : Int))).setCell ⟨wr.heap.size, 2, none⟩ (.int .u64 ((wd q 2 : Nat) : Int))).setCell ⟨wr.heap.size, 3, none⟩ (.int .u64 ((wd q 3 : Nat) : Int))) w.heap.size 26 (setA p) := (((ra.far hne1 _).far hne1 _).far hne1 _).far hne1 _
          have hB3 : Below w.heap.size w ((((w2.setCell ⟨wr.heap.size, 0, none⟩ (.int .u64 ((wd q 0 : Nat) : Int))).setCell ⟨wr.heap.size, 1, none⟩ (.int .u64 ((wd q 1 : Nat) : Int))).setCell ⟨wr.heap.size, 2, none⟩ (.int .u64 ((wd q 2 : Nat) : Int))).setCell ⟨wr.heap.size, 3, none⟩ (.int .u64 ((wd q 3 : Nat) : Int))) := by repeat (first | (with_reducible exact Below.refl _ _) | (with_reducible refine Below.drew ?_) | (refine Below.setCell ?_ (by first | exact Nat.le_refl _ | (simp; done) | (simp; omega) | omega) _) | (refine Below.alloc ?_ (by first | exact Nat.le_refl _ | (simp; done) | (simp; omega) | omega) _) | (refine Below.trans ?_ (Below.mono (by assumption) (by first | exact Nat.le_refl _ | (simp; done) | (simp; omega) | omega))))
          clear k0 k1 k2 k3 f0 f1 f2 f3 z0 m0 m1 m2 m3 g0 g1 g2 g3 y0 ra
          generalize ((((w2.setCell ⟨wr.heap.size, 0, none⟩ (.int .u64 ((wd q 0 : Nat) : Int))).setCell ⟨wr.heap.size, 1, none⟩ (.int .u64 ((wd q 1 : Nat) : Int))).setCell ⟨wr.heap.size, 2, none⟩ (.int .u64 ((wd q 2 : Nat) : Int))).setCell ⟨wr.heap.size, 3, none⟩ (.int .u64 ((wd q 3 : Nat) : Int))) = w3 at *
          refine (OR.out _).mono ?_
          rintro e w4 ⟨rfl, hb4⟩
          (try dsimp only)
          have rd := rc.on hb4
          have hB4 : Below w.heap.size w w4 := hB3.trans (hb4.mono hB3.size)
          obtain ⟨k0, k1, k2, k3, f0, f1, f2, f3, z0⟩ := rd.four
          clear hb4 rc hB3
          go_wp2
          go_roundw
          case rel =>
            refine ⟨m, false, P, by go_num, Or.inr ⟨rfl, by omega⟩, hadv.2, HR2.out, ?_, ?_⟩
            · exact (((rd.set 0 _).set 1 _).set 2 _).set 3 _
            · repeat (first | (with_reducible exact Below.refl _ _) | (with_reducible refine Below.drew ?_) | (refine Below.setCell ?_ (by first | exact Nat.le_refl _ | (simp; done) | (simp; omega) | omega) _) | (refine Below.alloc ?_ (by first | exact Nat.le_refl _ | (simp; done) | (simp; omega) | omega) _) | (refine Below.trans ?_ (Below.mono (by assumption) (by first | exact Nat.le_refl _ | (simp; done) | (simp; omega) | omega))))
          case measure => simp [intOf]; omega
      · rw [hs] at hi
        have hi := Lib.hid hi
        clear hs
        rcases HC.out with ⟨x, c, hm, rfl⟩ | ⟨q, m, hm, hrun2⟩
        · have mb := Lib.hid (MB.out n x c hn hm)
          clear hm HC MO MB
          go_wp2_with fail
          refine (hi.out _ HBn.out).mono ?_; rintro e w' ⟨rfl, rfl⟩; (try dsimp only)
          go_wp2_with fail
          refine (mb.out _ hBa.out).mono ?_
          rintro e w2 ⟨b, rfl, hbl, hrow, hb2⟩
          (try dsimp only)
          have hrow' := Lib.hid hrow
          clear hrow
          have ra := r0.out.on hb2
          have rb := rn.out.on hb2
          have hB2 : Below w.heap.size w w2 := hBa.out.trans (hb2.mono hBa.out.size)
          have hbB : w.heap.size < b := Nat.lt_of_lt_of_le r0.out.lt hbl
          have hbB2 : wr.heap.size < b := Nat.lt_of_lt_of_le rn.out.lt hbl
          obtain ⟨k0, k1, k2, k3, f0, f1, f2, f3, z0⟩ := ra.four
          obtain ⟨m0, m1, m2, m3, g0, g1, g2, g3, y0⟩ := rb.four
          have hsz := HBn.out.size
          have hne1 := hne.out
          have hne2 : wr.heap.size ≠ w.heap.size := fun h => hne.out h.symm
          clear hb2 rb
          go_upto_region 11 with fail
          have rc : Row ((((w2.setCell ⟨wr.heap.size, 0, none⟩ (.int .u64 0)).setCell ⟨wr.heap.size, 1, none⟩ (.int .u64 0)).setCell ⟨wr.heap.size, 2, none⟩ (.int .u64 0)).setCell ⟨wr.heap.size, 3, none⟩ (.int .u64 0)) w.heap.size 26 (setA p) := (((ra.far hne1 _).far hne1 _).far hne1 _).far hne1 _
          have hbn : b ≠ wr.heap.size := by omega
          have hrw : Hid (Row ((((w2.setCell ⟨wr.heap.size, 0, none⟩ (.int .u64 0)).setCell ⟨wr.heap.size, 1, none⟩ (.int .u64 0)).setCell ⟨wr.heap.size, 2, none⟩ (.int .u64 0)).setCell ⟨wr.heap.size, 3, none⟩ (.int .u64 0)) b 49 #[.int .i64 (x : Int), .iface 41 (.int .i64 (c : Int))]) := (((hrow'.out.far hbn _).far hbn _).far hbn _).far hbn _
          have hB3 : Below w.heap.size w ((((w2.setCell ⟨wr.heap.size, 0, none⟩ (.int .u64 0)).setCell ⟨wr.heap.size, 1, none⟩ (.int .u64 0)).setCell ⟨wr.heap.size, 2, none⟩ (.int .u64 0)).setCell ⟨wr.heap.size, 3, none⟩ (.int .u64 0)) := by repeat (first | (with_reducible exact Below.refl _ _) | (with_reducible refine Below.drew ?_) | (refine Below.setCell ?_ (by first | exact Nat.le_refl _ | (simp; done) | (simp; omega) | omega) _) | (refine Below.alloc ?_ (by first | exact Nat.le_refl _ | (simp; done) | (simp; omega) | omega) _) | (refine Below.trans ?_ (Below.mono (by assumption) (by first | exact Nat.le_refl _ | (simp; done) | (simp; omega) | omega))))
          clear k0 k1 k2 k3 f0 f1 f2 f3 z0 m0 m1 m2 m3 g0 g1 g2 g3 y0 ra hrow'
          generalize ((((w2.setCell ⟨wr.heap.size, 0, none⟩ (.int .u64 0)).setCell ⟨wr.heap.size, 1, none⟩ (.int .u64 0)).setCell ⟨wr.heap.size, 2, none⟩ (.int .u64 0)).setCell ⟨wr.heap.size, 3, none⟩ (.int .u64 0)) = w3 at *
          obtain ⟨k0, k1, k2, k3, f0, f1, f2, f3, z0⟩ := rc.four
          clear rc
          go_wp2
          refine bodyPost_ret (v := .tuple #[zeroV, .int .i64 0, .iface 47 (.pointer (some ⟨b, 0, none⟩))]) (by simp [results, Try.results30, go_sem, *]) rfl ?_
          have hbn2 : b ≠ w.heap.size := by omega
          refine ⟨b, rfl, Nat.le_of_lt hbB, (((hrw.out.far hbn2 _).far hbn2 _).far hbn2 _).far hbn2 _, ?_⟩
          repeat (first | (with_reducible exact Below.refl _ _) | (with_reducible refine Below.drew ?_) | (refine Below.setCell ?_ (by first | exact Nat.le_refl _ | (simp; done) | (simp; omega) | omega) _) | (refine Below.alloc ?_ (by first | exact Nat.le_refl _ | (simp; done) | (simp; omega) | omega) _) | (refine Below.trans ?_ (Below.mono (by assumption) (by first | exact Nat.le_refl _ | (simp; done) | (simp; omega) | omega))))
        · have mo := Lib.hid (MO.out n q m hn hm)
          have hadv := memM_adv hm
          have HR2 := Lib.hid hrun2
          clear hm HC MO MB hrun2
          obtain ⟨P, hP⟩ : ∃ P : Nat → Bool, P = fun x => p x || q x := ⟨_, rfl⟩
          have OR : Hid (∀ W, Calls Try.prog 37 #[setV p, setV q] W fun e w' => e = .returned (setV P) ∧ Below W.heap.size W w') := fun W => or_x p q P hP W
          rw [← hP] at HR2
          clear hP
          go_wp2_with fail
          refine (hi.out _ HBn.out).mono ?_; rintro e w' ⟨rfl, rfl⟩; (try dsimp only)
          go_wp2_with fail
          refine (mo.out _ hBa.out).mono ?_
          rintro e w2 ⟨rfl, hb2⟩
          (try dsimp only)
          have ra := r0.out.on hb2
          have rb := rn.out.on hb2
          have hB2 : Below w.heap.size w w2 := hBa.out.trans (hb2.mono hBa.out.size)
          have hsz := HBn.out.size
          have hne1 := hne.out
          have hne2 : wr.heap.size ≠ w.heap.size := fun h => hne.out h.symm
          obtain ⟨k0, k1, k2, k3, f0, f1, f2, f3, z0⟩ := ra.four
          obtain ⟨m0, m1, m2, m3, g0, g1, g2, g3, y0⟩ := rb.four
          clear hb2 rb
          go_wp2_with fail
          have rc : Row ((((w2.setCell ⟨wr.heap.size, 0, none⟩ (.int .u64 ((wd q 0 : Nat) : Int))).setCell ⟨wr.heap.size, 1, none⟩ (.int .u64 ((wd q 1 : Nat) : Int))).setCell ⟨wr.heap.size, 2, none⟩ (.int .u64 ((wd q 2 : Nat) : Int))).setCell ⟨wr.heap.size, 3, none⟩ (.int .u64 ((wd q 3 : Nat) : Int))) w.heap.size 26 (setA p) := (((ra.far hne1 _).far hne1 _).far hne1 _).far hne1 _
          have hB3 : Below w.heap.size w ((((w2.setCell ⟨wr.heap.size, 0, none⟩ (.int .u64 ((wd q 0 : Nat) : Int))).setCell ⟨wr.heap.size, 1, none⟩ (.int .u64 ((wd q 1 : Nat) : Int))).setCell ⟨wr.heap.size, 2, none⟩ (.int .u64 ((wd q 2 : Nat) : Int))).setCell ⟨wr.heap.size, 3, none⟩ (.int .u64 ((wd q 3 : Nat) : Int))) := by repeat (first | (with_reducible exact Below.refl _ _) | (with_reducible refine Below.drew ?_) | (refine Below.setCell ?_ (by first | exact Nat.le_refl _ | (simp; done) | (simp; omega) | omega) _) | (refine Below.alloc ?_ (by first | exact Nat.le_refl _ | (simp; done) | (simp; omega) | omega) _) | (refine Below.trans ?_ (Below.mono (by assumption) (by first | exact Nat.le_refl _ | (simp; done) | (simp; omega) | omega))))
          clear k0 k1 k2 k3 f0 f1 f2 f3 z0 m0 m1 m2 m3 g0 g1 g2 g3 y0 ra
          generalize ((((w2.setCell ⟨wr.heap.size, 0, none⟩ (.int .u64 ((wd q 0 : Nat) : Int))).setCell ⟨wr.heap.size, 1, none⟩ (.int .u64 ((wd q 1 : Nat) : Int))).setCell ⟨wr.heap.size, 2, none⟩ (.int .u64 ((wd q 2 : Nat) : Int))).setCell ⟨wr.heap.size, 3, none⟩ (.int .u64 ((wd q 3 : Nat) : Int))) = w3 at *
          refine (OR.out _).mono ?_
          rintro e w4 ⟨rfl, hb4⟩
          (try dsimp only)
          have rd := rc.on hb4
          have hB4 : Below w.heap.size w w4 := hB3.trans (hb4.mono hB3.size)
          obtain ⟨k0, k1, k2, k3, f0, f1, f2, f3, z0⟩ := rd.four
          clear hb4 rc hB3
          go_wp2
          go_roundw
          case rel =>
            refine ⟨m, false, P, by go_num, Or.inr ⟨rfl, by omega⟩, hadv.2, HR2.out, ?_, ?_⟩
            · exact (((rd.set 0 _).set 1 _).set 2 _).set 3 _
            · repeat (first | (with_reducible exact Below.refl _ _) | (with_reducible refine Below.drew ?_) | (refine Below.setCell ?_ (by first | exact Nat.le_refl _ | (simp; done) | (simp; omega) | omega) _) | (refine Below.alloc ?_ (by first | exact Nat.le_refl _ | (simp; done) | (simp; omega) | omega) _) | (refine Below.trans ?_ (Below.mono (by assumption) (by first | exact Nat.le_refl _ | (simp; done) | (simp; omega) | omega))))
          case measure => simp [intOf]; omega

/-- Where a bracket expression's members begin. -/
def begB (l : List UInt8) (k : Nat) : Nat := if isL l (k + 1) 94 = true then k + 2 else k + 1
theorem brk_u {v : Value} {l : List UInt8} {w : World} (h : BS w v l) (hl : l.length ≤ 1000000000) (hM : HM w) (k : Nat) (hk : isL l k 91 = true) (R : MR) (hR : RunB l (begB l k) true nonP R) :
    Calls Try.prog 30 #[v, .int .i64 (k : Int)] w fun e w' => EndB (isL l (k + 1) 94) k R w e w' := by
  unfold begB at hR
  cases ho : isL l (k + 1) 94
  · rw [ho] at hR
    exact brk_f h hl hM k hk ho R hR
  · rw [ho] at hR
    exact brk_t h hl hM k hk ho R hR
theorem begB_le {l : List UInt8} {k : Nat} (hk : isL l k 91 = true) : begB l k ≤ l.length := by
  have := (isL_lt hk).1
  unfold begB
  split
  · rename_i h; have := (isL_lt h).1; omega
  · omega
end Go.Proofs.Ytfmekmbdienbjaa
