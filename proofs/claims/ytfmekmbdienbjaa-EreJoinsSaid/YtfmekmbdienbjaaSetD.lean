/- The contracts of ranges and Escape of charset, and of the document's own Escape. -/
import Derived.Test.YtfmekmbdienbjaaSetC
import Derived.Deep.RegionWith
import Derived.Test.YtfmekmbdienbjaaLin
namespace Go.Proofs.Ytfmekmbdienbjaa
set_option linter.unusedSimpArgs false
set_option linter.unusedVariables false
set_option linter.unnecessarySimpa false
open Go.RowKit

/-- No byte. -/
def nonP : Nat → Bool := fun _ => false
theorem nonP_A : setA nonP = #[.int .u64 0, .int .u64 0, .int .u64 0, .int .u64 0] := by
  unfold setA nonP; rw [wd_none, wd_none, wd_none, wd_none]; rfl
/-- The bytes of ranges, each told by its two ends. -/
def rgsF (acc : Nat → Bool) : List UInt8 → Nat → Bool
  | a :: b :: r => rgsF (fun x => acc x || rngP a.toNat b.toNat x) r
  | _ => acc
theorem two_more {l : List UInt8} {k m : Nat} (hm : l.length = 2 * m) (hk : k < m) : l.drop (2 * k) = l.getD (2 * k) 0 :: l.getD (2 * k + 1) 0 :: l.drop (2 * (k + 1)) := by
  rw [drop_u8 l (by omega), drop_u8 l (k := 2 * k + 1) (by omega)]; rfl
set_option maxRecDepth 100000 in
set_option maxHeartbeats 4000000 in
theorem ranges_u (l : List UInt8) (m : Nat) (hm : l.length = 2 * m) (hm1 : m ≤ 100) (w : World) :
    Calls Try.prog 50 #[.string (S8 l)] w fun e w' => e = .returned (setV (rgsF nonP l)) ∧ Below w.heap.size w w' := by
  have H0 := Lib.hid nonP_A
  have HL : Hid (∀ ty w, (Builtin.len_ #[9] ty #[.string (S8 l)]).run Try.prog w = .ok (.int .i64 (l.length : Int)) w) := fun ty w => s8_len l ty w
  have HI : Hid (∀ k, k < l.length → ∀ w, (Instr.index 9 (.string (S8 l)) (.int .i64 (k : Int))).run Try.prog w = .ok (bv (l.getD k 0)) w) := fun k hk w => s8_at l k hk _ rfl w
  have HF : Hid (∀ k acc, k < m → rgsF acc (l.drop (2 * k)) = rgsF (fun x => acc x || rngP (l.getD (2 * k) 0).toNat (l.getD (2 * k + 1) 0).toNat x) (l.drop (2 * (k + 1)))) := by
    intro k acc hk
    rw [two_more hm hk]; rfl
  have HE : Hid (∀ acc, rgsF acc (l.drop (2 * m)) = acc) := by
    intro acc; rw [← hm, List.drop_length]; rfl
  have HN : Hid (rgsF nonP (l.drop (2 * 0)) = rgsF nonP l) := rfl
  obtain ⟨R, hR⟩ : ∃ R, R = rgsF nonP l := ⟨_, rfl⟩
  rw [← hR] at HN ⊢
  clear hR
  have Hm := Lib.hid hm
  clear hm
  go_enter Try.func50, Try.ntmps50
  go_upto_region 2 with fail
  have r0 : Row (w.alloc (.cells #[.int .u64 0, .int .u64 0, .int .u64 0, .int .u64 0] 26)) w.heap.size 26 #[.int .u64 0, .int .u64 0, .int .u64 0, .int .u64 0] := Row.new w _ _
  have r1 : Row ((w.alloc (.cells #[.int .u64 0, .int .u64 0, .int .u64 0, .int .u64 0] 26)).alloc (.cells #[.int .u64 0, .int .u64 0, .int .u64 0, .int .u64 0] 26)) (w.heap.size + 1) 26 (setA nonP) := by
    have := Row.new (w.alloc (.cells #[.int .u64 0, .int .u64 0, .int .u64 0, .int .u64 0] 26)) 26 (setA nonP)
    rw [H0.out] at this ⊢
    simpa using this
  have r0' := r0.alloc (.cells #[.int .u64 0, .int .u64 0, .int .u64 0, .int .u64 0] 26)
  have hB : Below w.heap.size w ((w.alloc (.cells #[.int .u64 0, .int .u64 0, .int .u64 0, .int .u64 0] 26)).alloc (.cells #[.int .u64 0, .int .u64 0, .int .u64 0, .int .u64 0] 26)) := by repeat (first | (with_reducible exact Below.refl _ _) | (with_reducible refine Below.drew ?_) | (refine Below.setCell ?_ (by first | exact Nat.le_refl _ | (simp; done) | (simp; omega) | omega) _) | (refine Below.alloc ?_ (by first | exact Nat.le_refl _ | (simp; done) | (simp; omega) | omega) _) | (refine Below.trans ?_ (Below.mono (by assumption) (by first | exact Nat.le_refl _ | (simp; done) | (simp; omega) | omega))))
  have R0 := Lib.hid (And.intro r0' (And.intro r1 hB))
  clear r0 r1 r0' hB H0
  generalize ((w.alloc (.cells #[.int .u64 0, .int .u64 0, .int .u64 0, .int .u64 0] 26)).alloc (.cells #[.int .u64 0, .int .u64 0, .int .u64 0, .int .u64 0] 26)) = w1 at *
  go_wp2
  go_loopw [4] (fun i wr => ∃ (n k : Nat) (acc : Nat → Bool), Hid (n = 2 * k) ∧ k ≤ m ∧ i = .int .i64 (n : Int) ∧ Hid (rgsF acc (l.drop (2 * k)) = R) ∧ Row wr w.heap.size 26 #[.int .u64 0, .int .u64 0, .int .u64 0, .int .u64 0] ∧ Row wr (w.heap.size + 1) 26 (setA acc) ∧ Below w.heap.size w wr) (fun i _ => 2 * m - (intOf i).toNat)
  case atStart => exact ⟨0, 0, nonP, rfl, by omega, rfl, HN.out, R0.out.1, R0.out.2.1, R0.out.2.2⟩
  case round =>
    obtain ⟨n, k, acc, hn, hk, rfl, hr, r0, r1, hB⟩ := hrel
    have hlen := HL.out
    by_cases hlt : k < m
    · have i1 := HI.out n (by have := hn.out; have := Hm.out; omega)
      have i2 := HI.out (n + 1) (by have := hn.out; have := Hm.out; omega)
      rw [show (((n + 1 : Nat)) : Int) = (n : Int) + 1 by omega] at i2
      have hr' : Hid (rgsF (fun x => acc x || rngP (l.getD n 0).toNat (l.getD (n + 1) 0).toNat x) (l.drop (2 * (k + 1))) = R) := by
        show _ = _; rw [hn.out, ← HF.out k acc hlt]; exact hr.out
      have hnb : n + 2 ≤ 200 := by have := hn.out; have := Hm.out; omega
      have ew : IntKind.i64.wrap ((n : Int) + 1) = (n : Int) + 1 := by rw [IntKind.wrap_i64]; omega
      have ew2 : IntKind.i64.wrap ((n : Int) + 2) = (n : Int) + 2 := by rw [IntKind.wrap_i64]; omega
      have hlt' : (n : Int) < (l.length : Int) := (by have := hn.out; have := Hm.out; omega)
      have k0 := r1.cell 0
      have k1 := r1.cell 1
      have k2 := r1.cell 2
      have k3 := r1.cell 3
      have f0 := r1.froz 0
      have f1 := r1.froz 1
      have f2 := r1.froz 2
      have f3 := r1.froz 3
      simp only [setA, List.getElem?_toArray, List.getElem?_cons_zero, List.getElem?_cons_succ] at k0 k1 k2 k3
      have hz := hB.size
      have z1 : w.heap.size + 1 < wr.heap.size := r1.lt
      have RR := Lib.hid (And.intro r0 (And.intro r1 hB))
      have HRg : Hid (∀ w, Calls Try.prog 28 #[bv (l.getD n 0), bv (l.getD (n + 1) 0)] w fun e w' => e = .returned (setV (rngP (l.getD n 0).toNat (l.getD (n + 1) 0).toNat)) ∧ Below w.heap.size w w') := fun w => range_u _ _ w
      have HOr : Hid (∀ w, Calls Try.prog 37 #[setV acc, setV (rngP (l.getD n 0).toNat (l.getD (n + 1) 0).toNat)] w fun e w' => e = .returned (setV (fun x => acc x || rngP (l.getD n 0).toNat (l.getD (n + 1) 0).toNat x)) ∧ Below w.heap.size w w') := fun w => or_u _ _ w
      clear r0 r1 hB hr
      generalize bv (l.getD n 0) = b1 at *
      generalize bv (l.getD (n + 1) 0) = b2 at *
      generalize rngP (l.getD n 0).toNat (l.getD (n + 1) 0).toNat = P1 at *
      generalize hP2 : (fun x => acc x || P1 x) = P2 at *
      clear hP2
      go_upto_region 5 with fail
      refine wp_region_held_drew (S := fun _ => True) (by kernel_rfl) trivial (fun hHeld => ?_)
      refine wpAnyH_take (i := 1) (v := ?_) rfl (by kernel_rfl) (by kernel_rfl) (by kernel_rfl) (fun _ _ _ h => h) (Or.inl ⟨by rfl, ?_⟩) hHeld ?_
      rotate_left
      · (intro w0 hSw; (try dsimp only at hSw); (first | (go_simp; done) | (go_simp; with_reducible rfl)))
      (try simp only [List.getElem_toArray, List.getElem_cons_zero, List.getElem_cons_succ, Act.put, List.setIfInBounds_toArray, List.set_cons_zero, List.set_cons_succ])
      refine wpAnyH_take (i := 2) (v := ?_) rfl (by kernel_rfl) (by kernel_rfl) (by kernel_rfl) (fun _ _ _ h => h) (Or.inl ⟨by rfl, ?_⟩) hHeld ?_
      rotate_left
      · (intro w0 hSw; (try dsimp only at hSw); (first | (go_simp; done) | (go_simp; with_reducible rfl)))
      (try simp only [List.getElem_toArray, List.getElem_cons_zero, List.getElem_cons_succ, Act.put, List.setIfInBounds_toArray, List.set_cons_zero, List.set_cons_succ])
      refine wpAnyH_take (i := 3) (v := ?_) rfl (by kernel_rfl) (by kernel_rfl) (by kernel_rfl) (fun _ _ _ h => h) (Or.inl ⟨by rfl, ?_⟩) hHeld ?_
      rotate_left
      · (intro w0 hSw; (try dsimp only at hSw); (first | (go_simp; done) | (go_simp; with_reducible rfl)))
      (try simp only [List.getElem_toArray, List.getElem_cons_zero, List.getElem_cons_succ, Act.put, List.setIfInBounds_toArray, List.set_cons_zero, List.set_cons_succ])
      refine wpAnyH_take (i := 4) (v := ?_) rfl (by kernel_rfl) (by kernel_rfl) (by kernel_rfl) (fun _ _ _ h => h) (Or.inl ⟨by rfl, ?_⟩) hHeld ?_
      rotate_left
      · (intro w0 hSw; (try dsimp only at hSw); (first | (go_simp; done) | (go_simp; with_reducible rfl)))
      (try simp only [List.getElem_toArray, List.getElem_cons_zero, List.getElem_cons_succ, Act.put, List.setIfInBounds_toArray, List.set_cons_zero, List.set_cons_succ])
      refine wpAnyH_take (i := 5) (v := ?_) rfl (by kernel_rfl) (by kernel_rfl) (by kernel_rfl) (fun _ _ _ h => h) (Or.inl ⟨by rfl, ?_⟩) hHeld ?_
      rotate_left
      · (intro w0 hSw; (try dsimp only at hSw); (first | (go_simp; done) | (go_simp; with_reducible rfl)))
      (try simp only [List.getElem_toArray, List.getElem_cons_zero, List.getElem_cons_succ, Act.put, List.setIfInBounds_toArray, List.set_cons_zero, List.set_cons_succ])
      refine wpAnyH_take (i := 6) (v := ?_) rfl (by kernel_rfl) (by kernel_rfl) (by kernel_rfl) (fun _ _ _ h => h) (Or.inl ⟨by rfl, ?_⟩) hHeld ?_
      rotate_left
      · (intro w0 hSw; (try dsimp only at hSw); (first | (go_simp; done) | (go_simp; with_reducible rfl)))
      (try simp only [List.getElem_toArray, List.getElem_cons_zero, List.getElem_cons_succ, Act.put, List.setIfInBounds_toArray, List.set_cons_zero, List.set_cons_succ])
      refine wpAnyH_take (i := 7) (v := ?_) rfl (by kernel_rfl) (by kernel_rfl) (by kernel_rfl) (fun _ _ _ h => h) (Or.inl ⟨by rfl, ?_⟩) hHeld ?_
      rotate_left
      · (intro w0 hSw; (try dsimp only at hSw); (first | (go_simp; done) | (go_simp; with_reducible rfl)))
      (try simp only [List.getElem_toArray, List.getElem_cons_zero, List.getElem_cons_succ, Act.put, List.setIfInBounds_toArray, List.set_cons_zero, List.set_cons_succ])
      refine wpAnyH_ready (rs := [0, 8]) (by kernel_rfl) (by simp) (AllReadyH.cons rfl (fun K hK => ?_) (AllReadyH.cons rfl (fun K hK => ?_) AllReadyH.nil))
      · go_simp
        refine hK.out _ _ trivial (fun hHeld2 => ?_)
        clear hK K hHeld; have hHeld := hHeld2; clear hHeld2
        (try simp only [List.getElem_toArray, List.getElem_cons_zero, List.getElem_cons_succ, Act.put, List.setIfInBounds_toArray, List.set_cons_zero, List.set_cons_succ])
        refine wpAnyH_ready (rs := [8]) (by kernel_rfl) (by simp) (AllReadyH.cons rfl (fun K hK => ?_) AllReadyH.nil)
        go_simp
        refine (HRg.out _).mono ?_; rintro ew2 w2 ⟨rfl, hbw2⟩; obtain ⟨hcw2, hfw2⟩ := bcell hbw2; (try simp only [World.size_drew, World.cell?_drew, World.frozen?_drew] at hcw2 hfw2); have hzw2 := hbw2.size; (try simp at hzw2); have : w.heap.size < w2.heap.size := (by omega); have : w.heap.size + 1 < w2.heap.size := (by omega); (try dsimp only)
        refine hK.out _ _ (trivial) (fun hHeld2 => ?_)
        clear hK K hHeld; have hHeld := hHeld2; clear hHeld2
        (try simp only [List.getElem_toArray, List.getElem_cons_zero, List.getElem_cons_succ, Act.put, List.setIfInBounds_toArray, List.set_cons_zero, List.set_cons_succ])
        refine wpAnyH_ready (rs := [9]) (by kernel_rfl) (by simp) (AllReadyH.cons rfl (fun K hK => ?_) AllReadyH.nil)
        go_simp
        refine (HOr.out _).mono ?_; rintro ew3 w3 ⟨rfl, hbw3⟩; obtain ⟨hcw3, hfw3⟩ := bcell hbw3; (try simp only [World.size_drew, World.cell?_drew, World.frozen?_drew] at hcw3 hfw3); have hzw3 := hbw3.size; (try simp at hzw3); have : w.heap.size < w3.heap.size := (by omega); have : w.heap.size + 1 < w3.heap.size := (by omega); (try dsimp only)
        refine hK.out _ _ (trivial) (fun hHeld2 => ?_)
        clear hK K hHeld; have hHeld := hHeld2; clear hHeld2
        (try simp only [List.getElem_toArray, List.getElem_cons_zero, List.getElem_cons_succ, Act.put, List.setIfInBounds_toArray, List.set_cons_zero, List.set_cons_succ])
        refine wpAnyH_ready (rs := [10]) (by kernel_rfl) (by simp) (AllReadyH.cons rfl (fun K hK => ?_) AllReadyH.nil)
        go_simp
        refine hK.out _ _ (trivial) (fun hHeld2 => ?_)
        clear hK K hHeld; have hHeld := hHeld2; clear hHeld2
        (try simp only [List.getElem_toArray, List.getElem_cons_zero, List.getElem_cons_succ, Act.put, List.setIfInBounds_toArray, List.set_cons_zero, List.set_cons_succ])
        refine wpAnyH_done (by kernel_rfl) ?_ _
        clear hHeld
        go_wp2
        go_roundw
        case rel =>
          obtain ⟨r0, r1, hB⟩ := RR.out
          have r1' : Row w3 (w.heap.size + 1) 26 (setA acc) := (Row.onb (w := wr.drew) r1 hbw2 z1).onb hbw3 (by omega)
          have r0' : Row w3 w.heap.size 26 #[.int .u64 0, .int .u64 0, .int .u64 0, .int .u64 0] := (Row.onb (w := wr.drew) r0 hbw2 (by show _ < wr.heap.size; omega)).onb hbw3 (by omega)
          refine ⟨n + 2, k + 1, P2, by show _ = _; rw [hn.out]; omega, by omega, by go_num, hr'.out, ?_, ?_, ?_⟩
          · exact (((r0'.far (by simp) _).far (by simp) _).far (by simp) _).far (by simp) _
          · exact (((r1'.set 0 _).set 1 _).set 2 _).set 3 _
          · repeat (first | (with_reducible exact Below.refl _ _) | (with_reducible refine Below.drew ?_) | (refine Below.setCell ?_ (by first | exact Nat.le_refl _ | (simp; done) | (simp; omega) | omega) _) | (refine Below.alloc ?_ (by first | exact Nat.le_refl _ | (simp; done) | (simp; omega) | omega) _) | (refine Below.trans ?_ (Below.mono (by assumption) (by first | exact Nat.le_refl _ | (simp; done) | (simp; omega) | omega))))
        case measure => simp [intOf]; have := hn.out; omega
      · go_simp
        refine (HRg.out _).mono ?_; rintro ew2 w2 ⟨rfl, hbw2⟩; obtain ⟨hcw2, hfw2⟩ := bcell hbw2; (try simp only [World.size_drew, World.cell?_drew, World.frozen?_drew] at hcw2 hfw2); have hzw2 := hbw2.size; (try simp at hzw2); have : w.heap.size < w2.heap.size := (by omega); have : w.heap.size + 1 < w2.heap.size := (by omega); (try dsimp only)
        refine hK.out _ _ trivial (fun hHeld2 => ?_)
        clear hK K hHeld; have hHeld := hHeld2; clear hHeld2
        (try simp only [List.getElem_toArray, List.getElem_cons_zero, List.getElem_cons_succ, Act.put, List.setIfInBounds_toArray, List.set_cons_zero, List.set_cons_succ])
        refine wpAnyH_ready (rs := [0]) (by kernel_rfl) (by simp) (AllReadyH.cons rfl (fun K hK => ?_) AllReadyH.nil)
        go_simp
        refine hK.out _ _ (trivial) (fun hHeld2 => ?_)
        clear hK K hHeld; have hHeld := hHeld2; clear hHeld2
        (try simp only [List.getElem_toArray, List.getElem_cons_zero, List.getElem_cons_succ, Act.put, List.setIfInBounds_toArray, List.set_cons_zero, List.set_cons_succ])
        refine wpAnyH_ready (rs := [9]) (by kernel_rfl) (by simp) (AllReadyH.cons rfl (fun K hK => ?_) AllReadyH.nil)
        go_simp
        refine (HOr.out _).mono ?_; rintro ew3 w3 ⟨rfl, hbw3⟩; obtain ⟨hcw3, hfw3⟩ := bcell hbw3; (try simp only [World.size_drew, World.cell?_drew, World.frozen?_drew] at hcw3 hfw3); have hzw3 := hbw3.size; (try simp at hzw3); have : w.heap.size < w3.heap.size := (by omega); have : w.heap.size + 1 < w3.heap.size := (by omega); (try dsimp only)
        refine hK.out _ _ (trivial) (fun hHeld2 => ?_)
        clear hK K hHeld; have hHeld := hHeld2; clear hHeld2
        (try simp only [List.getElem_toArray, List.getElem_cons_zero, List.getElem_cons_succ, Act.put, List.setIfInBounds_toArray, List.set_cons_zero, List.set_cons_succ])
        refine wpAnyH_ready (rs := [10]) (by kernel_rfl) (by simp) (AllReadyH.cons rfl (fun K hK => ?_) AllReadyH.nil)
        go_simp
        refine hK.out _ _ (trivial) (fun hHeld2 => ?_)
        clear hK K hHeld; have hHeld := hHeld2; clear hHeld2
        (try simp only [List.getElem_toArray, List.getElem_cons_zero, List.getElem_cons_succ, Act.put, List.setIfInBounds_toArray, List.set_cons_zero, List.set_cons_succ])
        refine wpAnyH_done (by kernel_rfl) ?_ _
        clear hHeld
        go_wp2
        go_roundw
        case rel =>
          obtain ⟨r0, r1, hB⟩ := RR.out
          have r1' : Row w3 (w.heap.size + 1) 26 (setA acc) := (Row.onb (w := wr.drew) r1 hbw2 z1).onb hbw3 (by omega)
          have r0' : Row w3 w.heap.size 26 #[.int .u64 0, .int .u64 0, .int .u64 0, .int .u64 0] := (Row.onb (w := wr.drew) r0 hbw2 (by show _ < wr.heap.size; omega)).onb hbw3 (by omega)
          refine ⟨n + 2, k + 1, P2, by show _ = _; rw [hn.out]; omega, by omega, by go_num, hr'.out, ?_, ?_, ?_⟩
          · exact (((r0'.far (by simp) _).far (by simp) _).far (by simp) _).far (by simp) _
          · exact (((r1'.set 0 _).set 1 _).set 2 _).set 3 _
          · repeat (first | (with_reducible exact Below.refl _ _) | (with_reducible refine Below.drew ?_) | (refine Below.setCell ?_ (by first | exact Nat.le_refl _ | (simp; done) | (simp; omega) | omega) _) | (refine Below.alloc ?_ (by first | exact Nat.le_refl _ | (simp; done) | (simp; omega) | omega) _) | (refine Below.trans ?_ (Below.mono (by assumption) (by first | exact Nat.le_refl _ | (simp; done) | (simp; omega) | omega))))
        case measure => simp [intOf]; have := hn.out; omega
    · obtain rfl : k = m := by omega
      have hacc : acc = R := by rw [← hr.out, HE.out]
      subst hacc
      have hlt' : decide (n < l.length) = false := decide_eq_false (by have := hn.out; have := Hm.out; omega)
      have k0 := r1.cell 0
      have k1 := r1.cell 1
      have k2 := r1.cell 2
      have k3 := r1.cell 3
      have y0 := r0.cell 0
      have y1 := r0.cell 1
      have y2 := r0.cell 2
      have y3 := r0.cell 3
      have f0 := r0.froz 0
      have f1 := r0.froz 1
      have f2 := r0.froz 2
      have f3 := r0.froz 3
      simp at k0 k1 k2 k3 y0 y1 y2 y3
      clear hr HF HE HI HN hk
      go_wp2
      refine bodyPost_ret (v := setV acc) (by simp [results, Try.results50, go_sem, *]) rfl ⟨rfl, ?_⟩
      repeat (first | (with_reducible exact Below.refl _ _) | (with_reducible refine Below.drew ?_) | (refine Below.setCell ?_ (by first | exact Nat.le_refl _ | (simp; done) | (simp; omega) | omega) _) | (refine Below.alloc ?_ (by first | exact Nat.le_refl _ | (simp; done) | (simp; omega) | omega) _) | (refine Below.trans ?_ (Below.mono (by assumption) (by first | exact Nat.le_refl _ | (simp; done) | (simp; omega) | omega))))

theorem or_x (p q r : Nat → Bool) (h : r = fun x => p x || q x) (w : World) : Calls Try.prog 37 #[setV p, setV q] w fun e w' => e = .returned (setV r) ∧ Below w.heap.size w w' := by subst h; exact or_u p q w
/-- The byte that an escape stands for. -/
def escU (c : UInt8) : UInt8 :=
  if c = 110 then 10 else if c = 116 then 9 else if c = 114 then 13 else if c = 102 then 12 else if c = 118 then 11 else if c = 97 then 7 else if c = 98 then 8 else c
def escL : List UInt8 := [110, 116, 114, 102, 118, 97, 98]
def escB : List UInt8 := [10, 9, 13, 12, 11, 7, 8]
theorem esc_hit : ∀ k, k < 7 → escU (escL.getD k 0) = escB.getD k 0 := by decide
theorem esc_miss {c : UInt8} (h : ∀ k, k < 7 → c ≠ escL.getD k 0) : escU c = c := by
  have h0 : c ≠ 110 := h 0 (by decide); have h1 : c ≠ 116 := h 1 (by decide); have h2 : c ≠ 114 := h 2 (by decide); have h3 : c ≠ 102 := h 3 (by decide); have h4 : c ≠ 118 := h 4 (by decide); have h5 : c ≠ 97 := h 5 (by decide); have h6 : c ≠ 98 := h 6 (by decide)
  unfold escU
  rw [if_neg h0, if_neg h1, if_neg h2, if_neg h3, if_neg h4, if_neg h5, if_neg h6]
set_option maxRecDepth 100000 in
set_option maxHeartbeats 4000000 in
theorem escape_u (c : UInt8) (w : World) :
    Calls Try.prog 31 #[bv c] w fun e w' => e = .returned (bv (escU c)) ∧ w = w' := by
  have H1 : Hid (∀ k : Nat, k < 7 → ∀ w, (Instr.index 9 (.string (S8 escL)) (.int .i64 (k : Int))).run Try.prog w = .ok (bv (escL.getD k 0)) w) := fun k hk w => s8_at escL k hk _ rfl w
  have H2 : Hid (∀ k : Nat, k < 7 → ∀ w, (Instr.index 9 (.string (S8 escB)) (.int .i64 (k : Int))).run Try.prog w = .ok (bv (escB.getD k 0)) w) := fun k hk w => s8_at escB k hk _ rfl w
  obtain ⟨d, hd⟩ : ∃ d, d = escU c := ⟨_, rfl⟩
  rw [← hd]
  have HD := Lib.hid hd
  clear hd
  go_enter Try.func31, Try.ntmps31
  go_wp2
  go_loop [4] (fun i => ∃ k : Nat, k ≤ 7 ∧ i = .int .i64 (k : Int) ∧ Hid (∀ j, j < k → c ≠ escL.getD j 0)) (fun i => 7 - (intOf i).toNat)
  case atStart => exact ⟨0, by omega, rfl, fun j hj => absurd hj (Nat.not_lt_zero _)⟩
  case round =>
    obtain ⟨k, hk, rfl, hr⟩ := hrel
    by_cases hlt : k < 7
    · have i1 := H1.out k hlt
      have i2 := H2.out k hlt
      have hlt' : (k : Int) < 7 := by omega
      rw [show S8 escL = ⟨#[110, 116, 114, 102, 118, 97, 98]⟩ from rfl] at i1
      rw [show S8 escB = ⟨#[10, 9, 13, 12, 11, 7, 8]⟩ from rfl] at i2
      by_cases he : escL.getD k 0 = c
      · have hh := Lib.hid (esc_hit k hlt)
        rw [he] at hh i1
        have hd : escB.getD k 0 = d := by rw [HD.out, hh.out]
        rw [hd] at i2
        clear H1 H2 hr he hd hh
        go_wp2
        go_ret
        exact ⟨rfl, rfl⟩
      · have hne : (((escL.getD k 0).toNat : Int) == (c.toNat : Int)) = false := by
          rw [beq_eq_false_iff_ne]; intro h; exact he (UInt8.toNat_inj.1 (by exact_mod_cast h))
        have hr' : Hid (∀ j, j < k + 1 → c ≠ escL.getD j 0) := by
          intro j hj
          rcases Nat.lt_or_ge j k with h | h
          · exact hr.out j h
          · obtain rfl : j = k := by omega
            exact fun h => he h.symm
        unfold bv at i1 ⊢
        generalize (escL.getD k 0).toNat = x at *
        clear H1 H2 hr he
        go_wp2
        go_round
        case rel => exact ⟨k + 1, by omega, by go_num, hr'⟩
        case measure => simp [intOf]; omega
    · obtain rfl : k = 7 := by omega
      obtain rfl : d = c := by rw [HD.out, esc_miss hr.out]
      have hlt' : ¬ ((7 : Nat) : Int) < 7 := by omega
      clear hr
      go_wp2
      go_ret
      exact ⟨rfl, rfl⟩
end Go.Proofs.Ytfmekmbdienbjaa
