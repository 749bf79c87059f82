/- The contracts of shapeOf and begin. -/
import Derived.Test.YtfecnogmjfmghaaDoorNumC
import Derived.Deep.Cut
import Derived.Deep.CutBlock
namespace Go.Proofs.YtfecnogmjfmghaaDoor
set_option linter.unusedSimpArgs false
set_option linter.unusedVariables false
set_option linter.unnecessarySimpa false
open Go.RowKit

/-- The cells of a shape. -/
abbrev shpA (t : Shp) : Array Value := #[.int .i64 (t.b : Int), .int .i64 (t.s : Int), .int .i64 (t.w : Int), .int .i64 (t.p : Int), .int .i64 (t.f : Int)]
abbrev shpV (t : Shp) : Value := .agg (shpA t)
def Shp.nth (t : Shp) (k : Nat) : Nat := if k = 0 then t.b else if k = 1 then t.s else if k = 2 then t.w else if k = 3 then t.p else if k = 4 then t.f else 0
def Shp.pre (t : Shp) (k : Nat) : Nat := (if 0 < k then t.b else 0) + (if 1 < k then t.s else 0) + (if 2 < k then t.w else 0) + (if 3 < k then t.p else 0) + (if 4 < k then t.f else 0)
theorem Shp.pre_succ (t : Shp) {k : Nat} (h : k < 5) : t.pre (k + 1) = t.pre k + t.nth k := by
  rcases (by omega : k = 0 ∨ k = 1 ∨ k = 2 ∨ k = 3 ∨ k = 4) with rfl | rfl | rfl | rfl | rfl <;> simp [Shp.pre, Shp.nth] <;> omega
theorem Shp.pre_le (t : Shp) (k : Nat) : t.pre k ≤ t.sum := by
  unfold Shp.pre Shp.sum; (repeat' split) <;> omega
theorem Shp.nth_le (t : Shp) (k : Nat) : t.nth k ≤ t.sum := by
  unfold Shp.nth Shp.sum; (repeat' split) <;> omega
theorem Shp.pre5 (t : Shp) : t.pre 5 = t.sum := by simp [Shp.pre, Shp.sum]
theorem Shp.pre0 (t : Shp) : t.pre 0 = 0 := by simp [Shp.pre]
theorem shpA_get (t : Shp) {k : Nat} (h : k < 5) : (shpA t)[k]? = some (.int .i64 ((t.nth k : Nat) : Int)) := by
  rcases (by omega : k = 0 ∨ k = 1 ∨ k = 2 ∨ k = 3 ∨ k = 4) with rfl | rfl | rfl | rfl | rfl <;> rfl
theorem shpA_set (t : Shp) {k : Nat} (h : k < 5) : (shpA t).setIfInBounds k (.int .i64 ((t.nth k : Nat) + 1 : Int)) = shpA (t.bump k) := by
  rcases (by omega : k = 0 ∨ k = 1 ∨ k = 2 ∨ k = 3 ∨ k = 4) with rfl | rfl | rfl | rfl | rfl <;> simp [Shp.bump, Shp.nth, shpA]

/-- A row of cells of the call's own. -/
def Row (w : World) (b : Nat) (T : TypeId) (cs : Array Value) : Prop := w.heap[b]? = some (.cells cs T (0, 0))
theorem Row.cell {w : World} {b : Nat} {T : TypeId} {cs : Array Value} (h : Row w b T cs) (j : Nat) : w.cell? ⟨b, j, none⟩ = cs[j]? := cell_of_row w b j cs T (0, 0) h
theorem Row.froz {w : World} {b : Nat} {T : TypeId} {cs : Array Value} (h : Row w b T cs) (j : Nat) : w.frozen? ⟨b, j, none⟩ = false := frozen_of_row w b j cs T h
theorem Row.lt {w : World} {b : Nat} {T : TypeId} {cs : Array Value} (h : Row w b T cs) : b < w.heap.size := (Array.getElem?_eq_some_iff.1 h).1
theorem Row.set {w : World} {b : Nat} {T : TypeId} {cs : Array Value} (h : Row w b T cs) (j : Nat) (v : Value) : Row (w.setCell ⟨b, j, none⟩ v) b T (cs.setIfInBounds j v) := heap_setCell_same w b j cs T v h
theorem Row.far {w : World} {b : Nat} {T : TypeId} {cs : Array Value} (h : Row w b T cs) {a : Addr} (hn : b ≠ a.block) (v : Value) : Row (w.setCell a v) b T cs := (heap_setCell_other w a b v hn).trans h
theorem Row.new (w : World) (T : TypeId) (cs : Array Value) : Row (w.alloc (.cells cs T)) w.heap.size T cs := heap_alloc_new w _
theorem Row.alloc {w : World} {b : Nat} {T : TypeId} {cs : Array Value} (h : Row w b T cs) (o : Obj) : Row (w.alloc o) b T cs := (Below.heap_alloc w o b h.lt).trans h
theorem Row.on {w w' : World} {b : Nat} {T : TypeId} {cs : Array Value} (h : Row w b T cs) (k : Below w.heap.size w w') : Row w' b T cs := (k.block b h.lt).trans h

set_option maxRecDepth 100000 in
set_option maxHeartbeats 4000000 in
theorem shapeOf_u {p : Option Addr} {c : Nat} {l : List UInt8} {w : World} (h : U8s w p l) (hlc : l.length ≤ c) (hl : l.length ≤ 281474976710656) :
    Calls Tryd.prog 23 #[.slice p l.length c] w fun e w' => e = .returned (shpV (shp l)) ∧ Below w.heap.size w w' := by
  have HN : Hid (∀ p : Nat, p ≤ 4 → ∀ (c : UInt8) (w : World), Calls Tryd.prog 43 #[.int .i64 (p : Int), bv c] w fun e w' => e = .returned (.int .i64 ((nxt p c : Nat) : Int)) ∧ w = w') := next_u
  have HS := Lib.hid (runS_sum l 0 Shp.z)
  have HV : Hid (shp l = if (runS 0 Shp.z l).w + (runS 0 Shp.z l).f = 0 then Shp.z else runS 0 Shp.z l) := rfl
  have H := Lib.hid h; clear h
  have zz : (4 : Nat) < 5 := by decide
  generalize shp l = g at *
  go_enter Tryd.func23, Tryd.ntmps23
  go_wp2
  go_loopw [4, 9] (fun q i wr => ∃ (k pt : Nat) (t : Shp), k ≤ l.length ∧ i = .int .i64 (k : Int) ∧ q = .int .i64 (pt : Int) ∧ pt ≤ 4 ∧ Hid (runS pt t (l.drop k) = runS 0 Shp.z l) ∧ Hid (t.sum ≤ k) ∧
      Row wr (w.heap.size + 1) 53 (shpA t) ∧ Row wr w.heap.size 53 (shpA Shp.z) ∧ Below w.heap.size w wr) (fun _ i _ => l.length - (intOf i).toNat)
  case atStart =>
    refine ⟨0, 0, Shp.z, by omega, rfl, rfl, by omega, rfl, Nat.le_refl _, ?_, ?_, ?_⟩
    · have := Row.new (w.alloc (.cells (shpA Shp.z) 53)) 53 (shpA Shp.z)
      simpa [Shp.z, shpA] using this
    · have := (Row.new w 53 (shpA Shp.z)).alloc (.cells (shpA Shp.z) 53)
      simpa [Shp.z, shpA] using this
    · repeat (first | (with_reducible exact Below.refl _ _) | (with_reducible refine Below.drew ?_) | (refine Below.setCell ?_ (by first | exact Nat.le_refl _ | (simp; done) | (simp; omega) | omega) _) | (refine Below.alloc ?_ (by first | exact Nat.le_refl _ | (simp; done) | (simp; omega) | omega) _) | (refine Below.trans ?_ (Below.mono (by assumption) (by first | exact Nat.le_refl _ | (simp; done) | (simp; omega) | omega))))
  case round =>
    obtain ⟨k, pt, t, hk, rfl, rfl, hpt, hR, hT, r1, r0, hB⟩ := hrel
    have c0 := r0.cell 0
    have c1 := r0.cell 1
    have c2 := r0.cell 2
    have c3 := r0.cell 3
    have c4 := r0.cell 4
    have f0 := r0.froz 0
    have f1 := r0.froz 1
    have f2 := r0.froz 2
    have f3 := r0.froz 3
    have f4 := r0.froz 4
    have d0 := r1.cell 0
    have d1 := r1.cell 1
    have d2 := r1.cell 2
    have d3 := r1.cell 3
    have d4 := r1.cell 4
    simp only [List.getElem?_toArray, List.getElem?_cons_zero, List.getElem?_cons_succ] at c0 c1 c2 c3 c4 d0 d1 d2 d3 d4
    have hs1 : (t.w : Int) ≤ 281474976710656 := by have := hT.out; unfold Shp.sum at this; omega
    have hs2 : (t.f : Int) ≤ 281474976710656 := by have := hT.out; unfold Shp.sum at this; omega
    have hs3 : (0 : Int) ≤ (t.w : Int) := by omega
    have hs4 : (0 : Int) ≤ (t.f : Int) := by omega
    by_cases hlt : k < l.length
    · obtain ⟨b, off, rfl, hbb, hcs⟩ := H.out (by rintro rfl; simp at hlt)
      have hcell : wr.cell? ⟨b, off + k, none⟩ = some (bv (l.getD k 0)) := (hB.cell (p := ⟨b, off + k, none⟩) hbb).trans (hcs k hlt)
      have hlt' : (k : Int) < (l.length : Int) := by omega
      have hge : (0 : Int) ≤ (k : Int) := by omega
      have HD := Lib.hid (drop_u8 l hlt)
      clear hcs
      generalize l.getD k 0 = x at *
      by_cases h5 : nxt pt x = 5
      · have hq : Hid (runS 0 Shp.z l = t) := by
          show _ = _
          rw [← hR.out, HD.out, runS, if_pos h5]
        have HC : Hid (∀ w, Calls Tryd.prog 43 #[.int .i64 (pt : Int), bv x] w fun e w' => e = .returned (.int .i64 5) ∧ w = w') := by
          intro w
          have := HN.out pt hpt x w
          rw [h5] at this
          exact this
        clear hR h5 HD
        by_cases h0 : t.w + t.f = 0
        · obtain rfl : g = Shp.z := by rw [HV.out, hq.out, if_pos h0]
          have t0 : (((t.w : Int) + (t.f : Int)) == 0) = true := by rw [beq_iff_eq]; omega
          clear h0 HV
          go_wp2_with (go_at_call 43; refine (HC.out _).mono ?_; rintro e w' ⟨rfl, rfl⟩)
          refine bodyPost_ret (v := .agg #[.int .i64 0, .int .i64 0, .int .i64 0, .int .i64 0, .int .i64 0]) (by simp [results, Tryd.results23, go_sem, *]) rfl ⟨rfl, ?_⟩
          repeat (first | (with_reducible exact Below.refl _ _) | (with_reducible refine Below.drew ?_) | (refine Below.setCell ?_ (by first | exact Nat.le_refl _ | (simp; done) | (simp; omega) | omega) _) | (refine Below.alloc ?_ (by first | exact Nat.le_refl _ | (simp; done) | (simp; omega) | omega) _) | (refine Below.trans ?_ (Below.mono (by assumption) (by first | exact Nat.le_refl _ | (simp; done) | (simp; omega) | omega))))
        · obtain rfl : g = t := by rw [HV.out, hq.out, if_neg h0]
          have t0 : (((g.w : Int) + (g.f : Int)) == 0) = false := by rw [beq_eq_false_iff_ne]; omega
          clear h0 HV
          go_wp2_with (go_at_call 43; refine (HC.out _).mono ?_; rintro e w' ⟨rfl, rfl⟩)
          refine bodyPost_ret (v := shpV g) (by simp [results, Tryd.results23, go_sem, *]) rfl ⟨rfl, ?_⟩
          repeat (first | (with_reducible exact Below.refl _ _) | (with_reducible refine Below.drew ?_) | (refine Below.setCell ?_ (by first | exact Nat.le_refl _ | (simp; done) | (simp; omega) | omega) _) | (refine Below.alloc ?_ (by first | exact Nat.le_refl _ | (simp; done) | (simp; omega) | omega) _) | (refine Below.trans ?_ (Below.mono (by assumption) (by first | exact Nat.le_refl _ | (simp; done) | (simp; omega) | omega))))
      · have HC : Hid (∀ w, Calls Tryd.prog 43 #[.int .i64 (pt : Int), bv x] w fun e w' => e = .returned (.int .i64 ((nxt pt x : Nat) : Int)) ∧ w = w') := HN.out pt hpt x
        have hq' : nxt pt x ≤ 4 := by have := nxt_le pt x; omega
        have hR' : Hid (runS (nxt pt x) (t.bump (nxt pt x)) (l.drop (k + 1)) = runS 0 Shp.z l) := by
          show _ = _
          rw [← hR.out, HD.out, runS, if_neg h5]
        clear hR h5 HD c0 c1 c2 c3 c4 d0 d1 d2 d3 d4 f0 f1 f2 f3 f4
        generalize nxt pt x = q at *
        have hT' : Hid ((t.bump q).sum ≤ k + 1) := by
          show _ ≤ _
          have := hT.out
          rw [Shp.bump_sum t (by omega)]; omega
        have d1 : wr.cell? ⟨w.heap.size + 1, q, none⟩ = some (.int .i64 ((t.nth q : Nat) : Int)) := (r1.cell q).trans (shpA_get t (by omega))
        have f1 := r1.froz q
        have hs2 : ((t.nth q : Nat) : Int) ≤ 281474976710656 := by have := hT.out; have := t.nth_le q; omega
        have hs3 : (0 : Int) ≤ ((t.nth q : Nat) : Int) := by omega
        have hq5 : (q : Int) < 5 := by omega
        have hq0 : (0 : Int) ≤ (q : Int) := by omega
        have R1 := Lib.hid (r1.set q (.int .i64 ((t.nth q : Nat) + 1 : Int)))
        have R0 := Lib.hid (r0.far (a := ⟨w.heap.size + 1, q, none⟩) (by simp) (.int .i64 ((t.nth q : Nat) + 1 : Int)))
        have B1 : Hid (Below w.heap.size w (wr.setCell ⟨w.heap.size + 1, q, none⟩ (.int .i64 ((t.nth q : Nat) + 1 : Int)))) := hB.setCell (by simp) _
        clear r1 r0 hB
        go_wp2_with (go_at_call 43; refine (HC.out _).mono ?_; rintro e w' ⟨rfl, rfl⟩)
        go_roundw
        case rel => exact ⟨k + 1, q, t.bump q, by omega, by go_num, rfl, hq', hR', hT', by have := R1.out; rwa [shpA_set t (by omega)] at this, R0.out, B1.out⟩
        case measure => simp [intOf]; omega
    · have hkl : k = l.length := by omega
      subst hkl
      have hq : Hid (runS 0 Shp.z l = t) := by
        show _ = _
        rw [← hR.out, List.drop_of_length_le (Nat.le_refl _)]; rfl
      clear hR
      by_cases h0 : t.w + t.f = 0
      · obtain rfl : g = Shp.z := by rw [HV.out, hq.out, if_pos h0]
        have t0 : (((t.w : Int) + (t.f : Int)) == 0) = true := by rw [beq_iff_eq]; omega
        clear h0 HV
        go_wp2
        refine bodyPost_ret (v := .agg #[.int .i64 0, .int .i64 0, .int .i64 0, .int .i64 0, .int .i64 0]) (by simp [results, Tryd.results23, go_sem, *]) rfl ⟨rfl, ?_⟩
        repeat (first | (with_reducible exact Below.refl _ _) | (with_reducible refine Below.drew ?_) | (refine Below.setCell ?_ (by first | exact Nat.le_refl _ | (simp; done) | (simp; omega) | omega) _) | (refine Below.alloc ?_ (by first | exact Nat.le_refl _ | (simp; done) | (simp; omega) | omega) _) | (refine Below.trans ?_ (Below.mono (by assumption) (by first | exact Nat.le_refl _ | (simp; done) | (simp; omega) | omega))))
      · obtain rfl : g = t := by rw [HV.out, hq.out, if_neg h0]
        have t0 : (((g.w : Int) + (g.f : Int)) == 0) = false := by rw [beq_eq_false_iff_ne]; omega
        clear h0 HV
        go_wp2
        refine bodyPost_ret (v := shpV g) (by simp [results, Tryd.results23, go_sem, *]) rfl ⟨rfl, ?_⟩
        repeat (first | (with_reducible exact Below.refl _ _) | (with_reducible refine Below.drew ?_) | (refine Below.setCell ?_ (by first | exact Nat.le_refl _ | (simp; done) | (simp; omega) | omega) _) | (refine Below.alloc ?_ (by first | exact Nat.le_refl _ | (simp; done) | (simp; omega) | omega) _) | (refine Below.trans ?_ (Below.mono (by assumption) (by first | exact Nat.le_refl _ | (simp; done) | (simp; omega) | omega))))

set_option maxRecDepth 100000 in
theorem begin_u (t : Shp) (k : Nat) (hk : k ≤ 5) (ht : t.sum ≤ 1000000000000000) (w : World) :
    Calls Tryd.prog 24 #[shpV t, .int .i64 (k : Int)] w fun e w' => e = .returned (.int .i64 ((t.pre k : Nat) : Int)) ∧ Below w.heap.size w w' := by
  have hk' : (k : Int) ≤ 5 := by omega
  have hk0 : (0 : Int) ≤ (k : Int) := by omega
  go_enter Tryd.func24, Tryd.ntmps24
  go_upto_region 2 with fail
  have hB : Below w.heap.size w (w.alloc (.cells (shpA t) 53)) := by repeat (first | (with_reducible exact Below.refl _ _) | (with_reducible refine Below.drew ?_) | (refine Below.setCell ?_ (by first | exact Nat.le_refl _ | (simp; done) | (simp; omega) | omega) _) | (refine Below.alloc ?_ (by first | exact Nat.le_refl _ | (simp; done) | (simp; omega) | omega) _) | (refine Below.trans ?_ (Below.mono (by assumption) (by first | exact Nat.le_refl _ | (simp; done) | (simp; omega) | omega))))
  have r0 : Row (w.alloc (.cells (shpA t) 53)) w.heap.size 53 (shpA t) := Row.new w _ _
  have HT := Lib.hid ht; clear ht
  generalize w.alloc (.cells (shpA t) 53) = w1 at *
  go_wp2
  go_loop [5, 11] (fun n i => ∃ j : Nat, j ≤ k ∧ i = .int .i64 (j : Int) ∧ n = .int .i64 ((t.pre j : Nat) : Int)) (fun _ i => k - (intOf i).toNat)
  case atStart => exact ⟨0, by omega, rfl, by rw [Shp.pre0]; rfl⟩
  case round =>
    obtain ⟨j, hj, rfl, rfl⟩ := hrel
    by_cases hlt : j < k
    · have hcell : w1.cell? ⟨w.heap.size, j, none⟩ = some (.int .i64 ((t.nth j : Nat) : Int)) := (r0.cell j).trans (shpA_get t (by omega))
      have hlt' : (j : Int) < (k : Int) := by omega
      have hge : (0 : Int) ≤ (j : Int) := by omega
      have hs := HT.out
      have s1 := t.nth_le j
      have s2 := t.pre_le j
      have s3 : (0 : Int) ≤ ((t.nth j : Nat) : Int) := by omega
      have s4 : (0 : Int) ≤ ((t.pre j : Nat) : Int) := by omega
      have s5 : ((t.nth j : Nat) : Int) ≤ 1000000000000000 := by omega
      have s6 : ((t.pre j : Nat) : Int) ≤ 1000000000000000 := by omega
      have HP := Lib.hid (t.pre_succ (k := j) (by omega))
      clear hs s1 s2
      generalize t.nth j = x at *
      generalize t.pre j = y at *
      go_wp2
      go_round
      case rel => exact ⟨j + 1, by omega, by go_num, by rw [HP.out]; go_num⟩
      case measure => simp [intOf]; omega
    · obtain rfl : j = k := by omega
      go_wp2
      go_ret
      exact ⟨rfl, hB⟩
end Go.Proofs.YtfecnogmjfmghaaDoor
