/- The contract of number. -/
import Derived.Test.YtfecnogmjfmghaaDoorNumF
import Derived.Test.YtfecnogmjfmghaaDoorShelf
import Derived.Laws.CopyOwn
namespace Go.Proofs.YtfecnogmjfmghaaDoor
set_option linter.unusedSimpArgs false
set_option linter.unusedVariables false
set_option linter.unnecessarySimpa false
open Go.RowKit

/-- The cells of bytes. -/
def bvs (l : List UInt8) : List Value := l.map bv
theorem bvs_len (l : List UInt8) : (bvs l).length = l.length := by simp [bvs]
theorem bvs_one (l : List UInt8) : ∀ u ∈ bvs l, u.oneCell' = true := by
  intro u hu; unfold bvs at hu; obtain ⟨n, _, rfl⟩ := List.mem_map.1 hu; rfl
theorem bvs_get {l : List UInt8} {j : Nat} (h : j < l.length) : (bvs l)[j]? = some (bv (l.getD j 0)) := by
  unfold bvs
  rw [List.getElem?_map, List.getElem?_eq_getElem h, List.getD_eq_getElem?_getD, List.getElem?_eq_getElem h]; rfl
theorem bvs_get' {l : List UInt8} {j : Nat} {u : Value} (h : (bvs l)[j]? = some u) : j < l.length ∧ u = bv (l.getD j 0) := by
  have hj : j < l.length := by
    rcases Nat.lt_or_ge j l.length with h1 | h1
    · exact h1
    · rw [List.getElem?_eq_none (by rw [bvs_len]; omega)] at h; cases h
  rw [bvs_get hj] at h
  exact ⟨hj, (Option.some.inj h).symm⟩
theorem bvs_splice (L : List UInt8) (off : Nat) (cs : List UInt8) : splice (bvs L) off (bvs cs) = bvs (splice L off cs) := by
  unfold splice bvs; simp [List.map_append, List.map_take, List.map_drop]
/-- What a slice of the call's own row reads as. -/
theorem Row.u8s {w : World} {b : Nat} {T : TypeId} {L : List UInt8} (h : Row w b T (bvs L).toArray) {i m : Nat} (hi : i + m ≤ L.length) : U8s w (some ⟨b, i, none⟩) ((L.drop i).take m) := by
  intro _
  refine ⟨b, i, rfl, h.lt, fun j hj => ?_⟩
  rw [List.length_take, List.length_drop] at hj
  rw [h.cell, List.getElem?_toArray, bvs_get (by omega), List.getD_eq_getElem?_getD, List.getD_eq_getElem?_getD, List.getElem?_take_of_lt (by omega), List.getElem?_drop]
def zer (k : Nat) : List UInt8 := List.replicate k 48
theorem zer_dgt (k : Nat) : allD (zer k) := by
  intro c hc
  unfold zer at hc
  rw [List.mem_replicate] at hc
  rw [hc.2]; unfold isDgt; decide
/-- All digits of a number: 30 ahead of the point, 6 behind. -/
def allL (X F : List UInt8) : List UInt8 := zer (30 - X.length) ++ (X ++ six F)
theorem allL_len {X F : List UInt8} (h : X.length ≤ 30) : (allL X F).length = 36 := by
  unfold allL zer; simp [six_len]; omega
theorem allL_val (X F : List UInt8) : valU (allL X F) = valU X * 1000000 + valU (six F) := by
  unfold allL zer
  rw [valU_append, valU_zeros, valU_append, six_len]; simp
theorem allL_dgt {X F : List UInt8} (h : allD X) (k : allD F) : allD (allL X F) := (zer_dgt _).app (h.app (six_dgt k))
theorem spl1 {X : List UInt8} (h : X.length ≤ 30) : splice (zer 36) (30 - X.length) X = zer (30 - X.length) ++ (X ++ zer 6) := by
  unfold splice zer
  rw [List.take_replicate, List.drop_replicate, Nat.min_eq_left (by omega), show 36 - (30 - X.length + X.length) = 6 by omega]
theorem spl2 {X F : List UInt8} (h : X.length ≤ 30) : splice (zer (30 - X.length) ++ (X ++ zer 6)) 30 (F.take 6) = allL X F := by
  unfold splice allL
  have e : zer (30 - X.length) ++ (X ++ zer 6) = (zer (30 - X.length) ++ X) ++ zer 6 := by simp
  have hl : (zer (30 - X.length) ++ X).length = 30 := by unfold zer; simp; omega
  rw [e, List.take_left' hl, List.append_assoc]
  congr 2
  unfold six
  rw [List.take_append, ← List.drop_drop, List.drop_left' hl, List.length_take]
  unfold zer
  rw [List.drop_replicate, List.take_replicate]
  congr 2
  omega

theorem run_at_from (b i : Nat) (hi : i ≤ 35) (x : Int) (hx : x = (i : Int)) (w : World) :
    (Instr.sliceAt 69 (.pointer (some ⟨b, 0, none⟩)) (some (.int .i64 x)) none none).run Tryd.prog w = .ok (.slice (some ⟨b, i, none⟩) (36 - i) (36 - i)) w := by
  subst hx
  have ht : Tryd.prog.underlying 69 = some (.array (Tryd.prog.arrayLen 69) (Tryd.prog.elem 69)) := by kernel_rfl
  have hn : Tryd.prog.arrayLen 69 = 36 := by kernel_rfl
  have hz : ∀ w, (Go.sizeOf (Tryd.prog.elem 69)).run Tryd.prog w = .ok 1 w := fun w => by kernel_rfl
  rw [run_sliceAt_array_l w 69 _ ht .i64 _ (by omega) (by rw [hn]; omega), hz]
  simp only [Result.andThen, slicedAt, hn, Int.toNat_natCast, Nat.mul_one]
  rw [if_neg (by omega), add_lit', Nat.zero_add]
theorem run_at_to (b i : Nat) (hi : i ≤ 36) (x : Int) (hx : x = (i : Int)) (w : World) :
    (Instr.sliceAt 69 (.pointer (some ⟨b, 0, none⟩)) none (some (.int .i64 x)) none).run Tryd.prog w = .ok (.slice (some ⟨b, 0, none⟩) i 36) w := by
  subst hx
  have ht : Tryd.prog.underlying 69 = some (.array (Tryd.prog.arrayLen 69) (Tryd.prog.elem 69)) := by kernel_rfl
  have hn : Tryd.prog.arrayLen 69 = 36 := by kernel_rfl
  have hz : ∀ w, (Go.sizeOf (Tryd.prog.elem 69)).run Tryd.prog w = .ok 1 w := fun w => by kernel_rfl
  rw [run_sliceAt_array_h w 69 _ ht .i64 _ (by omega) (by rw [hn]; omega), hz]
  simp only [Result.andThen, slicedAt, hn, Int.toNat_natCast, Nat.zero_mul]
  rw [if_neg (by omega), add_lit']
  simp

/-- What number answers: the number, and an error's number. -/
def numR (m : Nat) : Value := .tuple #[MV false (fitQ m), errV (fitC m)]

set_option maxRecDepth 100000 in
set_option maxHeartbeats 4000000 in
theorem number_over {v1 v2 : Value} {W F : List UInt8} {w : World} (h1 : BS w v1 W) (hW : allD W) (hF : allD F) (ho : 30 < (lead W).length) :
    Calls Tryd.prog 25 #[v1, v2] w fun e w' => e = .returned (numR (magOf W F)) ∧ Below w.heap.size w w' := by
  have hm : ¬ magOf W F < topN := by rw [magOf_lt hW hF]; omega
  have C : Hid (∀ W', Below w.heap.size w W' → Calls Tryd.prog 44 #[v1, .string ⟨#[48]⟩] W' fun e w' => ∃ p c, e = .returned (.slice p (lead W).length c) ∧ W' = w') := by
    intro W' hb
    refine (trim_u (h1.on hb)).mono ?_
    rintro e w' ⟨v', rfl, h8, rfl⟩
    obtain ⟨p, c, rfl, _, _, _⟩ := h8 w h1
    exact ⟨p, c, rfl, rfl⟩
  have R : Hid (numR (magOf W F) = .tuple #[.agg #[.bool false, .int .u64 0, .int .u64 0], .iface 62 (.int .i64 2)]) := by
    show _ = _
    unfold numR fitQ fitC
    rw [if_neg hm, if_neg hm]; rfl
  have t1 : decide ((30 : Int) < ((lead W).length : Int)) = true := by simp; omega
  clear h1 hW hF hm ho
  generalize (lead W).length = n at *
  generalize numR (magOf W F) = r at *
  go_enter Tryd.func25, Tryd.ntmps25
  go_wp2_with (go_at_call 44; refine (C.out _ (by repeat (first | (with_reducible exact Below.refl _ _) | (with_reducible refine Below.drew ?_) | (refine Below.setCell ?_ (by first | exact Nat.le_refl _ | (simp; done) | (simp; omega) | omega) _) | (refine Below.alloc ?_ (by first | exact Nat.le_refl _ | (simp; done) | (simp; omega) | omega) _) | (refine Below.trans ?_ (Below.mono (by assumption) (by first | exact Nat.le_refl _ | (simp; done) | (simp; omega) | omega)))))).mono ?_; rintro e w' ⟨p, c, rfl, rfl⟩)
  rw [R.out]
  refine bodyPost_ret (v := .tuple #[.agg #[.bool false, .int .u64 0, .int .u64 0], .iface 62 (.int .i64 2)]) (by simp [results, Tryd.results25, go_sem, *]) rfl ⟨rfl, ?_⟩
  repeat (first | (with_reducible exact Below.refl _ _) | (with_reducible refine Below.drew ?_) | (refine Below.setCell ?_ (by first | exact Nat.le_refl _ | (simp; done) | (simp; omega) | omega) _) | (refine Below.alloc ?_ (by first | exact Nat.le_refl _ | (simp; done) | (simp; omega) | omega) _) | (refine Below.trans ?_ (Below.mono (by assumption) (by first | exact Nat.le_refl _ | (simp; done) | (simp; omega) | omega))))

theorem U8s.src {w : World} {p : Option Addr} {l : List UInt8} (h : U8s w p l) (m : Nat) (h0 : 0 < (bvs (l.take m)).length) : ∃ ad, p = some ad ∧ ∀ j u, (bvs (l.take m))[j]? = some u → w.cell? (ad.add j) = some u := by
  have hn : l ≠ [] := by rintro rfl; simp [bvs] at h0
  obtain ⟨b, o, rfl, hb, hc⟩ := h hn
  refine ⟨_, rfl, fun j u hu => ?_⟩
  obtain ⟨hj, rfl⟩ := bvs_get' hu
  rw [List.length_take] at hj
  rw [add_lit', hc j (by omega), List.getD_eq_getElem?_getD, List.getD_eq_getElem?_getD, List.getElem?_take_of_lt (by omega)]
theorem Row.onb {w w' : World} {b B : Nat} {T : TypeId} {cs : Array Value} (h : Row w b T cs) (k : Below B w w') (hb : b < B) : Row w' b T cs := (k.block b hb).trans h
def filL (k : Nat) : List UInt8 := zer k ++ List.replicate (36 - k) 0
theorem filL_len {k : Nat} (h : k ≤ 36) : (filL k).length = 36 := by unfold filL zer; simp; omega
theorem filL_set {k : Nat} (h : k < 36) : (bvs (filL k)).toArray.setIfInBounds k (.int .u8 48) = (bvs (filL (k + 1))).toArray := by
  have e1 : filL k = zer k ++ (0 :: List.replicate (36 - (k + 1)) 0) := by
    unfold filL; rw [show 36 - k = (36 - (k + 1)) + 1 by omega, List.replicate_succ]
  have e2 : filL (k + 1) = zer k ++ (48 :: List.replicate (36 - (k + 1)) 0) := by
    unfold filL zer; rw [List.replicate_succ']; simp
  have hz : (zer k).length = k := by unfold zer; simp
  rw [e1, e2, List.setIfInBounds_toArray]
  congr 1
  unfold bvs
  rw [List.map_append, List.map_append, List.set_append_right _ _ (by rw [List.length_map, hz]; exact Nat.le_refl _), List.length_map, hz, Nat.sub_self]
  rfl
theorem filL_36 : filL 36 = zer 36 := by unfold filL; simp

theorem num_lo {a b : Nat} (ha : a < 1000000000000000000) (hb : b < 1000000000000000000) : addS (a * 1000000000000000000 % 18446744073709551616) b 0 = loN (a * 1000000000000000000 + b) := by unfold addS loN; omega
theorem num_hi {a b : Nat} (ha : a < 1000000000000000000) (hb : b < 1000000000000000000) : a * 1000000000000000000 / 18446744073709551616 + addC (a * 1000000000000000000 % 18446744073709551616) b 0 = hiN (a * 1000000000000000000 + b) := by unfold addC hiN; omega
theorem num_small {a b : Nat} (ha : a < 1000000000000000000) : a * 1000000000000000000 / 18446744073709551616 ≤ 1000000000000000000 ∧ addC (a * 1000000000000000000 % 18446744073709551616) b 0 ≤ 2000000000000000000 + b := by unfold addC; omega
theorem addC_le {a b : Nat} (ha : a < 18446744073709551616) (hb : b < 18446744073709551616) : addC a b 0 ≤ 1 := by unfold addC; omega

set_option maxRecDepth 100000 in
set_option maxHeartbeats 8000000 in
theorem number_ok {v1 v2 : Value} {W F : List UInt8} {w : World} (h1 : BS w v1 W) (h2 : BS w v2 F) (hW : allD W) (hF : allD F) (ho : (lead W).length ≤ 30) :
    Calls Tryd.prog 25 #[v1, v2] w fun e w' => e = .returned (numR (magOf W F)) ∧ Below w.heap.size w w' := by
  have hm : magOf W F < topN := by rw [magOf_lt hW hF]; omega
  have hX : allD (lead W) := fun c hc => hW c (lead_mem hc)
  have C : Hid (∀ W', Below w.heap.size w W' → Calls Tryd.prog 44 #[v1, .string ⟨#[48]⟩] W' fun e w' => ∃ v', e = .returned v' ∧ BS w v' (lead W) ∧ W' = w') := by
    intro W' hb
    refine (trim_u (h1.on hb)).mono ?_
    rintro e w' ⟨v', rfl, h8, rfl⟩
    exact ⟨v', rfl, h8 w h1, rfl⟩
  have R : Hid (numR (magOf W F) = .tuple #[MV false (valU (allL (lead W) F)), .nilIface]) := by
    show _ = _
    unfold numR fitQ fitC
    rw [if_pos hm, if_pos hm, allL_val, valU_lead]; rfl
  have hL := allL_len (F := F) ho
  have hLd := Lib.hid (allL_dgt (F := F) hX hF)
  have hE1 := Lib.hid (spl1 ho)
  have hE2 := Lib.hid (spl2 (F := F) ho)
  have H2 := Lib.hid h2
  clear h1 h2 hW hF hm hX
  generalize numR (magOf W F) = r at *
  generalize lead W = X at *
  have t1 : decide ((30 : Int) < (X.length : Int)) = false := by simp; omega
  go_enter Tryd.func25, Tryd.ntmps25
  go_upto_region 5 with (go_at_call 44; refine (C.out _ (by repeat (first | (with_reducible exact Below.refl _ _) | (with_reducible refine Below.drew ?_) | (refine Below.setCell ?_ (by first | exact Nat.le_refl _ | (simp; done) | (simp; omega) | omega) _) | (refine Below.alloc ?_ (by first | exact Nat.le_refl _ | (simp; done) | (simp; omega) | omega) _) | (refine Below.trans ?_ (Below.mono (by assumption) (by first | exact Nat.le_refl _ | (simp; done) | (simp; omega) | omega)))))).mono ?_; rintro e w' ⟨v', rfl, ⟨p, c, rfl, hXc, hcm, hXu⟩, rfl⟩)
  have hpl : Hid (U8s w p X) := hXu
  clear C hXu
  go_wp2
  go_loopw [18] (fun i wr => ∃ k : Nat, k ≤ 36 ∧ i = .int .i64 (k : Int) ∧ Row wr (w.heap.size + 1) 69 (bvs (filL k)).toArray ∧ Row wr w.heap.size 26 #[.bool false, .int .u64 0, .int .u64 0] ∧ Below w.heap.size w wr) (fun i _ => 36 - (intOf i).toNat)
  case atStart =>
    refine ⟨0, by omega, rfl, ?_, ?_, ?_⟩
    · exact (by simpa using Row.new (w.alloc (.cells #[.bool false, .int .u64 0, .int .u64 0] 26)) 69 (bvs (filL 0)).toArray : Row ((w.alloc (.cells #[.bool false, .int .u64 0, .int .u64 0] 26)).alloc (.cells (bvs (filL 0)).toArray 69)) (w.heap.size + 1) 69 (bvs (filL 0)).toArray)
    · exact (Row.new w 26 #[.bool false, .int .u64 0, .int .u64 0]).alloc _
    · repeat (first | (with_reducible exact Below.refl _ _) | (with_reducible refine Below.drew ?_) | (refine Below.setCell ?_ (by first | exact Nat.le_refl _ | (simp; done) | (simp; omega) | omega) _) | (refine Below.alloc ?_ (by first | exact Nat.le_refl _ | (simp; done) | (simp; omega) | omega) _) | (refine Below.trans ?_ (Below.mono (by assumption) (by first | exact Nat.le_refl _ | (simp; done) | (simp; omega) | omega))))
  case round =>
    obtain ⟨k, hk, rfl, r1, r0, hB⟩ := hrel
    by_cases hlt : k < 36
    · have hlt' : (k : Int) < 36 := by omega
      have hge : (0 : Int) ≤ (k : Int) := by omega
      have d0 : wr.cell? ⟨w.heap.size + 1, k, none⟩ = some (bv ((filL k).getD k 0)) := (r1.cell k).trans (by rw [List.getElem?_toArray]; exact bvs_get (by rw [filL_len hk]; exact hlt))
      have f0 := r1.froz k
      have R1 := Lib.hid (r1.set k (.int .u8 48))
      have R0 := Lib.hid (r0.far (a := ⟨w.heap.size + 1, k, none⟩) (by simp) (.int .u8 48))
      have B1 : Hid (Below w.heap.size w (wr.setCell ⟨w.heap.size + 1, k, none⟩ (.int .u8 48))) := hB.setCell (by simp) _
      clear r1 r0 hB
      unfold bv at d0
      generalize ((filL k).getD k 0).toNat = y at *
      go_wp2
      go_roundw
      case rel => exact ⟨k + 1, by omega, by go_num, by have := R1.out; rwa [filL_set hlt] at this, R0.out, B1.out⟩
      case measure => simp [intOf]; omega
    · obtain rfl : k = 36 := by omega
      rw [filL_36] at r1
      have hS1 := run_at_from (w.heap.size + 1) (30 - X.length) (by omega) (30 - (X.length : Int)) (by omega)
      have hX30 : (X.length : Int) ≤ 30 := by omega
      have S1 : Hid (0 < (bvs X).length → some (⟨w.heap.size + 1, 30 - X.length, none⟩ : Addr) = some ⟨w.heap.size + 1, 30 - X.length, none⟩ ∧ ∃ ad, p = some ad ∧ ∀ j u, (bvs X)[j]? = some u → wr.cell? (ad.add j) = some u) := by
        intro h0
        have := (hpl.out.on hB).src X.length
        rw [List.take_of_length_le (Nat.le_refl _)] at this
        exact ⟨rfl, this h0⟩
      have N1 : Hid ((bvs X).length = Nat.min X.length (36 - (30 - X.length))) := by
        show _ = _
        rw [bvs_len]; exact (Nat.min_eq_left (by omega)).symm
      have K1 : Hid (30 - X.length + (bvs X).length ≤ (bvs (zer 36)).length) := by
        show _ ≤ _
        rw [bvs_len, bvs_len]; unfold zer; rw [List.length_replicate]; omega
      have HB := Lib.hid hB
      have HR0 := Lib.hid r0
      have HR1 : Hid (wr.heap[w.heap.size + 1]? = some (.cells (bvs (zer 36)).toArray 69 (0, 0))) := r1
      clear hB r0 r1 hlt hk
      go_upto_region 11 with (with_reducible refine wpList_copy_splice rfl (.tmp 27) (.tmp 28) 22 22 rfl 5 Tryd.underlying22 (by kernel_rfl) (some ⟨w.heap.size + 1, 30 - X.length, none⟩) p (36 - (30 - X.length)) (36 - (30 - X.length)) X.length c rfl rfl (w.heap.size + 1) (30 - X.length) (bvs (zer 36)) 69 HR1.out (bvs X) N1.out S1.out K1.out (bvs_one X) (w.heap.size + 1) wr (Below.refl _ _) (Nat.le_refl _) ?_; intro w2 hrow2 hb2)
      rw [bvs_splice, hE1.out] at hrow2
      have HB2 : Hid (Below w.heap.size w w2) := HB.out.trans (hb2.mono (by omega))
      have HR02 : Hid (Row w2 w.heap.size 26 #[.bool false, .int .u64 0, .int .u64 0]) := HR0.out.onb hb2 (by omega)
      clear HB HR0 HR1 N1 S1 K1 hS1 hb2
      obtain ⟨p2, c2, rfl, hFc, hFm, hFu⟩ := H2.out
      have hS2 : ∀ W, (Instr.sliceAt 69 (.pointer (some ⟨w.heap.size + 1, 0, none⟩)) (some (.int .i64 30)) none none).run Tryd.prog W = .ok (.slice (some ⟨w.heap.size + 1, 30, none⟩) 6 6) W := run_at_from (w.heap.size + 1) 30 (by omega) 30 (by omega)
      have S2 : Hid (0 < (bvs (F.take 6)).length → some (⟨w.heap.size + 1, 30, none⟩ : Addr) = some ⟨w.heap.size + 1, 30, none⟩ ∧ ∃ ad, p2 = some ad ∧ ∀ j u, (bvs (F.take 6))[j]? = some u → w2.cell? (ad.add j) = some u) := by
        intro h0
        exact ⟨rfl, (hFu.on HB2.out).src 6 h0⟩
      have N2 : Hid ((bvs (F.take 6)).length = Nat.min F.length 6) := by
        show _ = _
        rw [bvs_len, List.length_take]; exact Nat.min_comm _ _
      have K2 : Hid (30 + (bvs (F.take 6)).length ≤ (bvs (zer (30 - X.length) ++ (X ++ zer 6))).length) := by
        show _ ≤ _
        rw [bvs_len, bvs_len, List.length_take]; unfold zer; simp; omega
      clear hFu
      go_upto_region 12 with (with_reducible refine wpList_copy_splice rfl (.tmp 30) (.tmp 31) 22 22 rfl 5 Tryd.underlying22 (by kernel_rfl) (some ⟨w.heap.size + 1, 30, none⟩) p2 6 6 F.length c2 rfl rfl (w.heap.size + 1) 30 (bvs (zer (30 - X.length) ++ (X ++ zer 6))) 69 hrow2.out (bvs (F.take 6)) N2.out S2.out K2.out (bvs_one _) (w.heap.size + 1) w2 (Below.refl _ _) (Nat.le_refl _) ?_; intro w3 hrow3 hb3)
      rw [bvs_splice, hE2.out] at hrow3
      have HB3 : Hid (Below w.heap.size w w3) := HB2.out.trans (hb3.mono (by omega))
      have r0 := HR02.out.onb hb3 (by omega)
      have r1 : Row w3 (w.heap.size + 1) 69 (bvs (allL X F)).toArray := hrow3.out
      have BA : BS w3 (.slice (some ⟨w.heap.size + 1, 0, none⟩) 18 36) (((allL X F).drop 0).take 18) := ⟨_, 36, by simp [hL], by simp [hL], by simp [maxLen], r1.u8s (by omega)⟩
      have BB : BS w3 (.slice (some ⟨w.heap.size + 1, 18, none⟩) 18 18) (((allL X F).drop 18).take 18) := ⟨_, 18, by simp [hL], by simp [hL], by simp [maxLen], r1.u8s (by omega)⟩
      have eA : ((allL X F).drop 0).take 18 = (allL X F).take 18 := by simp
      have eB : ((allL X F).drop 18).take 18 = (allL X F).drop 18 := by rw [List.take_of_length_le (by rw [List.length_drop]; omega)]
      rw [eA] at BA
      rw [eB] at BB
      have va := valU_lt _ (hLd.out.take 18)
      have vb := valU_lt _ (hLd.out.drop 18)
      rw [List.length_take, hL] at va
      rw [List.length_drop, hL] at vb
      have HVAL : Hid (valU (allL X F) = valU ((allL X F).take 18) * 1000000000000000000 + valU ((allL X F).drop 18)) := by
        show _ = _
        conv => lhs; rw [← List.take_append_drop 18 (allL X F), valU_append, List.length_drop, hL]
      have JA : Hid (∀ W, w3 = W → Calls Tryd.prog 45 #[.slice (some ⟨w.heap.size + 1, 0, none⟩) 18 36] W fun e w' => e = .returned (.int .u64 ((valU ((allL X F).take 18) : Nat) : Int)) ∧ W = w') := by
        rintro W rfl
        exact join_u BA (by rw [List.length_take, hL]; decide) (hLd.out.take 18)
      have JB : Hid (∀ W, w3 = W → Calls Tryd.prog 45 #[.slice (some ⟨w.heap.size + 1, 18, none⟩) 18 18] W fun e w' => e = .returned (.int .u64 ((valU ((allL X F).drop 18) : Nat) : Int)) ∧ W = w') := by
        rintro W rfl
        exact join_u BB (by rw [List.length_drop, hL]; decide) (hLd.out.drop 18)
      clear eA eB BA BB HB2 HR02 N2 S2 K2 hS2 hrow2 hb3 r1 hrow3
      generalize valU ((allL X F).take 18) = a at *
      generalize valU ((allL X F).drop 18) = b at *
      generalize valU (allL X F) = m at *
      have ha : a < 1000000000000000000 := va
      have hb : b < 1000000000000000000 := vb
      clear va vb
      have NL := Lib.hid (num_lo ha hb)
      have NH := Lib.hid (num_hi ha hb)
      have M1 : Hid (∀ W, Calls Tryd.prog 40 #[.int .u64 (a : Int), .int .u64 1000000000000000000] W fun e w' => e = .returned (.tuple #[.int .u64 ((a * 1000000000000000000 / 18446744073709551616 : Nat) : Int), .int .u64 ((a * 1000000000000000000 % 18446744073709551616 : Nat) : Int)]) ∧ W = w') := by
        intro W
        refine (Tryd.bits_Mul64 a 1000000000000000000 (by omega) (by omega) W).mono ?_
        rintro e w' ⟨rfl, rfl⟩
        exact ⟨rfl, rfl⟩
      have q1 := (num_small (b := b) ha).1
      have q2 : addC (a * 1000000000000000000 % 18446744073709551616) b 0 ≤ 1 := addC_le (by omega) (by omega)
      have hs3 : ∀ W, (Instr.sliceAt 69 (.pointer (some ⟨w.heap.size + 1, 0, none⟩)) none (some (.int .i64 18)) none).run Tryd.prog W = .ok (.slice (some ⟨w.heap.size + 1, 0, none⟩) 18 36) W := run_at_to (w.heap.size + 1) 18 (by omega) 18 (by omega)
      have hs4 : ∀ W, (Instr.sliceAt 69 (.pointer (some ⟨w.heap.size + 1, 0, none⟩)) (some (.int .i64 18)) none none).run Tryd.prog W = .ok (.slice (some ⟨w.heap.size + 1, 18, none⟩) 18 18) W := run_at_from (w.heap.size + 1) 18 (by omega) 18 (by omega)
      have ad := add64 (a * 1000000000000000000 % 18446744073709551616) b
      generalize a * 1000000000000000000 / 18446744073709551616 = x at *
      generalize a * 1000000000000000000 % 18446744073709551616 = y at *
      generalize addS y b 0 = lo at *
      generalize addC y b 0 = cy at *
      have q3 : (x : Int) ≤ 1000000000000000000 := by omega
      have q4 : (cy : Int) ≤ 1 := by omega
      have q5 : (0 : Int) ≤ (x : Int) := by omega
      have q6 : (0 : Int) ≤ (cy : Int) := by omega
      have c0 := r0.cell 0
      have c1 := r0.cell 1
      have c2 := r0.cell 2
      have f0 := r0.froz 0
      have f1 := r0.froz 1
      have f2 := r0.froz 2
      simp only [List.getElem?_toArray, List.getElem?_cons_zero, List.getElem?_cons_succ] at c0 c1 c2
      clear r0 q1 q2 ha hb
      go_wp2_with fail
      refine (JA.out _ rfl).mono ?_
      rintro e w' ⟨rfl, rfl⟩
      go_wp2_with fail
      refine (M1.out _).mono ?_
      rintro e w' ⟨rfl, rfl⟩
      go_wp2_with fail
      refine (JB.out _ rfl).mono ?_
      rintro e w' ⟨rfl, rfl⟩
      go_wp2
      have E : r = .tuple #[.agg #[.bool false, .int .u64 ((x : Int) + (cy : Int)), .int .u64 (lo : Int)], .nilIface] := by
        rw [R.out]; unfold MV; rw [HVAL.out, ← NL.out, ← NH.out]; simp
      rw [E]
      have HB3' := HB3.out
      refine bodyPost_ret (v := .tuple #[.agg #[.bool false, .int .u64 ((x : Int) + (cy : Int)), .int .u64 (lo : Int)], .nilIface]) (by simp [results, Tryd.results25, go_sem, *]) rfl ⟨rfl, ?_⟩
      repeat (first | (with_reducible exact Below.refl _ _) | (with_reducible refine Below.drew ?_) | (refine Below.setCell ?_ (by first | exact Nat.le_refl _ | (simp; done) | (simp; omega) | omega) _) | (refine Below.alloc ?_ (by first | exact Nat.le_refl _ | (simp; done) | (simp; omega) | omega) _) | (refine Below.trans ?_ (Below.mono (by assumption) (by first | exact Nat.le_refl _ | (simp; done) | (simp; omega) | omega))))
theorem number_u {v1 v2 : Value} {W F : List UInt8} {w : World} (h1 : BS w v1 W) (h2 : BS w v2 F) (hW : allD W) (hF : allD F) :
    Calls Tryd.prog 25 #[v1, v2] w fun e w' => e = .returned (numR (magOf W F)) ∧ Below w.heap.size w w' := by
  by_cases ho : (lead W).length ≤ 30
  · exact number_ok h1 h2 hW hF ho
  · exact number_over h1 hW hF (by omega)
end Go.Proofs.YtfecnogmjfmghaaDoor
