/- The reference's Pow: the loop of products. -/
import Derived.Test.YtanfgolelhmdhaaRefU
namespace Go.Proofs.Ytanfgolelhmdhaa
set_option linter.unusedSimpArgs false
set_option linter.unusedVariables false
set_option linter.unnecessarySimpa false
open Go.RowKit


set_option maxRecDepth 100000 in
set_option maxHeartbeats 8000000 in
theorem rpow_pos0 {v v' : Value} {x y : Int} {w : World} (h : IsZ w v x) (h' : IsZ w v' y) (hx : x.natAbs < topN) (hy : y.natAbs < topN)
    (hw : y = truncZ y) (hx0 : x = 0) (h1 : y.natAbs / 1000000 ≤ 1000) (hn : negZ y = false) :
    Calls Try.prog 31 #[v, v'] w (RetHeld (negZ (powN x (y.natAbs / 1000000)).1) (powN x (y.natAbs / 1000000)).1.natAbs (powN x (y.natAbs / 1000000)).2 w) := by
  obtain ⟨A, c, rfl, hI⟩ := h
  obtain ⟨A', c', rfl, hI'⟩ := h'
  have C1 : Hid (∀ W, Below w.heap.size w W → Calls Try.prog 38 #[.agg #[.bool false, .slice A' (dig y.natAbs).length c']] W (RetNum (negZ (truncZ y)) (truncZ y).natAbs W)) := by
    rw [← hn]; exact fun W hW => rtrunc_any ⟨A', c', rfl, hI'.on hW⟩ (top200 hy)
  have C2 : Hid (∀ W v1, Below w.heap.size w W → IsNum W v1 (negZ (truncZ y)) (truncZ y).natAbs → Calls Try.prog 37 #[v1, .agg #[.bool false, .slice A' (dig y.natAbs).length c']] W fun e w' => e = .returned (.bool true) ∧ Below W.heap.size W w') := by
    rw [← hn]
    intro W v1 hW h1
    have k := same_any (v' := .agg #[.bool (negZ y), .slice A' (dig y.natAbs).length c']) (n' := negZ y) (m' := y.natAbs) h1 ⟨A', c', rfl, hI'.on hW⟩ (top_len (trunc_top hy)) (top_len hy)
    rw [eqM_z, decide_eq_true hw.symm] at k; exact k
  have C3 : Hid (∀ W, Below w.heap.size w W → Calls Try.prog 36 #[.agg #[.bool false, .slice A' (dig y.natAbs).length c']] W fun e w' => e = .returned (.tuple #[.int .i64 (((y.natAbs / 1000000 : Nat) : Int)), .bool true]) ∧ Below W.heap.size W w') := by
    intro W hW
    have k := rwhole_any (v := .agg #[.bool false, .slice A' (dig y.natAbs).length c']) (n := false) (m := y.natAbs) ⟨A', c', rfl, hI'.on hW⟩ (top_len hy)
    have e1 : whB false (y.natAbs / 1000000) = true := by unfold whB; simp; omega
    have e2 : whV false (y.natAbs / 1000000) = ((y.natAbs / 1000000 : Nat) : Int) := by unfold whV; rw [e1]; rfl
    rw [e1, e2] at k
    exact k
  have C7 : Hid (∀ k W v1, Below w.heap.size w W → IsNum W v1 (negZ (powN x k).1) (powN x k).1.natAbs → Calls Try.prog 27 #[v1, .agg #[.bool (negZ x), .slice A (dig x.natAbs).length c]] W (RetHeld (negZ (fitR (((powN x k).1 * x).tdiv 1000000)).1) (fitR (((powN x k).1 * x).tdiv 1000000)).1.natAbs (fitR (((powN x k).1 * x).tdiv 1000000)).2 W)) :=
    fun k W v1 hW h1 => rmul_z (x := (powN x k).1) (y := x) h1 ⟨A, c, rfl, hI.on hW⟩ (top_len300 (powN_top x k)) (top_len300 hx)
  have tx : (((((dig x.natAbs).length : Nat) : Int)) == 0) = true := by rw [len0]; simp; omega
  have Hq := Lib.hid h1
  clear hI hI' hx hy hw
  generalize truncZ y = ty at *
  generalize hq : y.natAbs / 1000000 = q at *
  generalize ty.natAbs = mt at *
  generalize negZ ty = nt at *
  generalize (dig x.natAbs).length = p at *
  generalize (dig y.natAbs).length = p' at *
  generalize negZ x = nx at *
  have g1 : ¬ (1000 : Int) < (q : Int) := by omega
  have g2 : ¬ (q : Int) < (-1000 : Int) := by omega
  rw [hn]
  clear hn hq h1 hx0
  go_enter Try.func31, Try.ntmps31
  go_upto_region 1 with fail
  refine wp_region_held_drew (S := fun w' => w'.cell? ⟨w.heap.size, 0, none⟩ = some (.bool nx) ∧ w'.cell? ⟨w.heap.size, 1, none⟩ = some (.slice A p c) ∧ w'.cell? ⟨w.heap.size + 1, 0, none⟩ = some (.bool false) ∧ w'.cell? ⟨w.heap.size + 1, 1, none⟩ = some (.slice A' p' c')) (by kernel_rfl) (by (repeat' (with_reducible apply And.intro)) <;> go_simp) (fun hHeld => ?_)
  refine wpAnyH_take (i := 0) (v := ?_) rfl (by kernel_rfl) (by kernel_rfl) (by kernel_rfl) (fun _ _ _ h => h) (Or.inl ⟨by rfl, ?_⟩) hHeld ?_
  rotate_left
  · (intro w0 hSw; (try dsimp only at hSw); (first | (go_simp; done) | (go_simp; with_reducible rfl)))
  (try simp only [List.getElem_toArray, List.getElem_cons_zero, List.getElem_cons_succ, Act.put, List.setIfInBounds_toArray, List.set_cons_zero, List.set_cons_succ])
  refine wpAnyH_take (i := 2) (v := ?_) rfl (by kernel_rfl) (by kernel_rfl) (by kernel_rfl) (fun _ _ _ h => h) (Or.inl ⟨by rfl, ?_⟩) hHeld ?_
  rotate_left
  · (intro w0 hSw; (try dsimp only at hSw); (first | (go_simp; done) | (go_simp; with_reducible rfl)))
  (try simp only [List.getElem_toArray, List.getElem_cons_zero, List.getElem_cons_succ, Act.put, List.setIfInBounds_toArray, List.set_cons_zero, List.set_cons_succ])
  refine wpAnyH_ready (rs := [1]) (by kernel_rfl) (by simp) (AllReadyH.cons rfl (fun K hK => ?_) AllReadyH.nil)
  go_simp
  refine (C1.out _ ?_).mono ?_; (focus (repeat (first | (with_reducible exact Below.refl _ _) | (with_reducible refine Below.drew ?_) | (refine Below.setCell ?_ (by first | exact Nat.le_refl _ | (simp; done) | (simp; omega) | omega) _) | (refine Below.alloc ?_ (by first | exact Nat.le_refl _ | (simp; done) | (simp; omega) | omega) _) | (refine Below.trans ?_ (Below.mono (by assumption) (by first | exact Nat.le_refl _ | (simp; done) | (simp; omega) | omega)))))); rintro e w1 ⟨v1, rfl, hI1, hb1⟩; obtain ⟨hc1, hf1⟩ := bcell hb1; (try simp only [World.size_drew, World.cell?_drew, World.frozen?_drew] at hc1 hf1); have hz1 := hb1.size; (try simp at hz1); have hLr1 := ((Lies.fresh _ _ _)).drew.on hb1; have hLx1 := ((((Lies.fresh w _ _)).alloc _).alloc _).drew.on hb1; (simp at hLr1); have : w.heap.size < w1.heap.size := (by omega); have : w.heap.size + 1 < w1.heap.size := (by omega); have : w.heap.size + 1 + 1 < w1.heap.size := (by omega); (try dsimp only)
  refine hK.out _ _ (by (repeat' (with_reducible apply And.intro)) <;> go_simp) (fun hHeld2 => ?_)
  clear hK K hHeld; have hHeld := hHeld2; clear hHeld2
  (try simp only [List.getElem_toArray, List.getElem_cons_zero, List.getElem_cons_succ, Act.put, List.setIfInBounds_toArray, List.set_cons_zero, List.set_cons_succ])
  refine wpAnyH_ready (rs := [3]) (by kernel_rfl) (by simp) (AllReadyH.cons rfl (fun K hK => ?_) AllReadyH.nil)
  go_simp
  refine (C2.out _ _ ?_ hI1).mono ?_; (focus (repeat (first | (with_reducible exact Below.refl _ _) | (with_reducible refine Below.drew ?_) | (refine Below.setCell ?_ (by first | exact Nat.le_refl _ | (simp; done) | (simp; omega) | omega) _) | (refine Below.alloc ?_ (by first | exact Nat.le_refl _ | (simp; done) | (simp; omega) | omega) _) | (refine Below.trans ?_ (Below.mono (by assumption) (by first | exact Nat.le_refl _ | (simp; done) | (simp; omega) | omega)))))); rintro e w2 ⟨rfl, hb2⟩; obtain ⟨hc2, hf2⟩ := bcell hb2; have hz2 := hb2.size; (try simp at hz2); have hLr2 := hLr1.on hb2; have hLx2 := hLx1.on hb2; have : w.heap.size < w2.heap.size := (by omega); have : w.heap.size + 1 < w2.heap.size := (by omega); have : w.heap.size + 1 + 1 < w2.heap.size := (by omega); (try dsimp only)
  refine hK.out _ _ (by (repeat' (with_reducible apply And.intro)) <;> go_simp) (fun hHeld2 => ?_)
  clear hK K hHeld; have hHeld := hHeld2; clear hHeld2
  (try simp only [List.getElem_toArray, List.getElem_cons_zero, List.getElem_cons_succ, Act.put, List.setIfInBounds_toArray, List.set_cons_zero, List.set_cons_succ])
  refine wpAnyH_take (i := 4) (v := ?_) rfl (by kernel_rfl) (by kernel_rfl) (by kernel_rfl) (fun _ _ _ h => h) (Or.inl ⟨by rfl, ?_⟩) hHeld ?_
  rotate_left
  · (intro w0 hSw; (try dsimp only at hSw); (first | (go_simp; done) | (go_simp; with_reducible rfl)))
  (try simp only [List.getElem_toArray, List.getElem_cons_zero, List.getElem_cons_succ, Act.put, List.setIfInBounds_toArray, List.set_cons_zero, List.set_cons_succ])
  refine wpAnyH_done (by kernel_rfl) ?_ _
  have HLr2 := Lib.hid hLr2
  have HLx2 := Lib.hid hLx2
  have hB2 : Below w.heap.size w w2 := by repeat (first | (with_reducible exact Below.refl _ _) | (with_reducible refine Below.drew ?_) | (refine Below.setCell ?_ (by first | exact Nat.le_refl _ | (simp; done) | (simp; omega) | omega) _) | (refine Below.alloc ?_ (by first | exact Nat.le_refl _ | (simp; done) | (simp; omega) | omega) _) | (refine Below.trans ?_ (Below.mono (by assumption) (by first | exact Nat.le_refl _ | (simp; done) | (simp; omega) | omega))))
  have x0 : w2.cell? ⟨w.heap.size, 0, none⟩ = some (.bool nx) := by go_simp
  have x1 : w2.cell? ⟨w.heap.size, 1, none⟩ = some (.slice A p c) := by go_simp
  have y0 : w2.cell? ⟨w.heap.size + 1, 0, none⟩ = some (.bool false) := by go_simp
  have y1 : w2.cell? ⟨w.heap.size + 1, 1, none⟩ = some (.slice A' p' c') := by go_simp
  clear hc1 hf1 hc2 hf2 hb1 hb2 hI1 hLr1 hLr2 hLx1 hLx2 hHeld
  have HB2 := Lib.hid hB2
  go_wp2_with fail
  refine (C3.out _ HB2.out).mono ?_
  rintro e w3 ⟨rfl, hb3⟩
  have hz3 := hb3.size
  have HLr3 := Lib.hid (HLr2.out.on hb3)
  have HLx3 := Lib.hid (HLx2.out.on hb3)
  have hB3 : Below w.heap.size w w3 := by repeat (first | (with_reducible exact Below.refl _ _) | (with_reducible refine Below.drew ?_) | (refine Below.setCell ?_ (by first | exact Nat.le_refl _ | (simp; done) | (simp; omega) | omega) _) | (refine Below.alloc ?_ (by first | exact Nat.le_refl _ | (simp; done) | (simp; omega) | omega) _) | (refine Below.trans ?_ (Below.mono (by assumption) (by first | exact Nat.le_refl _ | (simp; done) | (simp; omega) | omega))))
  have hsz : w.heap.size + 1 + 1 < w3.heap.size := by omega
  clear hb3 x0 x1 y0 y1 HB2 hB2 hz3
  have HB3 := Lib.hid hB3
  go_upto_region 11 with fail
  go_loopw [10] (fun t10 wr => PowK w x q w3.heap.size nx (.slice A p c) t10 wr) (fun t10 _ => q - (intOf t10).toNat)
  case atStart =>
    refine ⟨0, Nat.zero_le _, rfl, rfl, ?_, ((HLx3.out.alloc _).alloc _).alloc _, ((HLr3.out.alloc _).alloc _).alloc _, ?_, ?_, some ⟨w3.heap.size, 0, none⟩, 7, ?_, ?_⟩
    · repeat (first | (with_reducible exact Below.refl _ _) | (with_reducible refine Below.drew ?_) | (refine Below.setCell ?_ (by first | exact Nat.le_refl _ | (simp; done) | (simp; omega) | omega) _) | (refine Below.alloc ?_ (by first | exact Nat.le_refl _ | (simp; done) | (simp; omega) | omega) _) | (refine Below.trans ?_ (Below.mono (by assumption) (by first | exact Nat.le_refl _ | (simp; done) | (simp; omega) | omega))))
    · have k := (Lies.fresh (w3.alloc (.cells #[.int .i64 0, .int .i64 0, .int .i64 0, .int .i64 0, .int .i64 0, .int .i64 0, .int .i64 1] 3)) 35 #[.bool false, .slice (some ⟨w3.heap.size, 0, none⟩) 7 7]).alloc (.cells #[.bool false, .slice (some ⟨w3.heap.size, 0, none⟩) 7 7] 35)
      simp at k
      exact k
    · exact ints_million (((Lies.fresh w3 _ _).alloc _).alloc _)
    · rw [show (dig (powN x 0).1.natAbs).length = 7 from l7_million]
      have k := (Lies.fresh ((w3.alloc (.cells #[.int .i64 0, .int .i64 0, .int .i64 0, .int .i64 0, .int .i64 0, .int .i64 0, .int .i64 1] 3)).alloc (.cells #[.bool false, .slice (some ⟨w3.heap.size, 0, none⟩) 7 7] 35)) 35 #[.bool false, .slice (some ⟨w3.heap.size, 0, none⟩) 7 7])
      simp at k
      exact k
    · exact ints_million (((Lies.fresh w3 _ _).alloc _).alloc _)
  case round =>
    obtain ⟨k, hk, rfl, hk0, hB, hLx, hLr, hLo, hIo, Ak, ck, hLp, hIp⟩ := hrel
    have Hk := Lib.hid hk0
    have HLx := Lib.hid hLx
    have HLr := Lib.hid hLr
    have HLo := Lib.hid hLo
    have HLp := Lib.hid hLp
    have HIo := Lib.hid hIo
    have HIp := Lib.hid hIp
    have HB := Lib.hid hB
    have hP := hLp.lt
    have hq' : q ≤ 1000 := Hq.out
    obtain ⟨x0, x1, x2, x3⟩ := hLx.cells2
    obtain ⟨r0, r1, r2, r3⟩ := hLr.cells2
    obtain ⟨o0, o1, o2, o3⟩ := hLo.cells2
    obtain ⟨p0, p1, p2, p3⟩ := hLp.cells2
    clear hk0 hLx hLr hLo hLp hIo hIp
    have wr1 : IntKind.i64.wrap (0 - ((q : Int))) = -((q : Int)) := by rw [IntKind.wrap_i64]; omega
    have wr2 : IntKind.i64.wrap (-((q : Int))) = -((q : Int)) := by rw [IntKind.wrap_i64]; omega
    by_cases hlt : k < q
    · 
      have u1 : (k : Int) < (q : Int) := by omega
      by_cases hf : (((powN x k).1 * x).tdiv 1000000).natAbs < topN
      · have D : Hid (∀ W v1, Below w.heap.size w W → IsNum W v1 (negZ (powN x k).1) (powN x k).1.natAbs → Calls Try.prog 27 #[v1, .agg #[.bool nx, .slice A p c]] W (fun e w' => ∃ v, e = .returned (.tuple #[v, .int .i64 0]) ∧ IsNum w' v (negZ (powN x (k + 1)).1) (powN x (k + 1)).1.natAbs ∧ Below W.heap.size W w')) := by
          intro W v1 hW h1
          have k7 := C7.out k W v1 hW h1
          rw [← powN_succ Hk.out] at k7
          have e0 : (powN x (k + 1)).2 = 0 := by rw [powN_succ Hk.out, fitR_0 hf]
          rw [e0] at k7
          exact k7
        have Hf := Lib.hid hf
        clear hf
        go_wp2_with fail
        refine (D.out _ _ HB.out ⟨Ak, ck, rfl, HIp.out⟩).mono ?_
        rintro e w7 ⟨v7, rfl, ⟨A7, c7, rfl, hI7⟩, hb7⟩
        obtain ⟨hc7, hf7⟩ := bcell hb7
        have hz7 := hb7.size
        have HI7 := Lib.hid hI7
        have Hb7 := Lib.hid hb7
        have : w.heap.size < w7.heap.size := by omega
        have : w.heap.size + 1 + 1 < w7.heap.size := by omega
        have : w3.heap.size + 1 < w7.heap.size := by omega
        have : w3.heap.size + 1 + 1 < w7.heap.size := by omega
        have hB7 : Below w.heap.size w w7 := by repeat (first | (with_reducible exact Below.refl _ _) | (with_reducible refine Below.drew ?_) | (refine Below.setCell ?_ (by first | exact Nat.le_refl _ | (simp; done) | (simp; omega) | omega) _) | (refine Below.alloc ?_ (by first | exact Nat.le_refl _ | (simp; done) | (simp; omega) | omega) _) | (refine Below.trans ?_ (Below.mono (by assumption) (by first | exact Nat.le_refl _ | (simp; done) | (simp; omega) | omega))))
        clear hI7 hb7
        go_wp2
        go_roundw
        case rel =>
          refine ⟨k + 1, by omega, by go_num, ?_, ?_, (((HLx.out.on Hb7.out).far ?_ _).far ?_ _).alloc _, (((HLr.out.on Hb7.out).far ?_ _).far ?_ _).alloc _, (((HLo.out.on Hb7.out).far ?_ _).far ?_ _).alloc _, ?_, A7, c7, ((HLp.out.on Hb7.out).put2 _ _).alloc _, ?_⟩
          · rw [powN_succ Hk.out, fitR_0 Hf.out]
          · repeat (first | (with_reducible exact Below.refl _ _) | (with_reducible refine Below.drew ?_) | (refine Below.setCell ?_ (by first | exact Nat.le_refl _ | (simp; done) | (simp; omega) | omega) _) | (refine Below.alloc ?_ (by first | exact Nat.le_refl _ | (simp; done) | (simp; omega) | omega) _) | (refine Below.trans ?_ (Below.mono (by assumption) (by first | exact Nat.le_refl _ | (simp; done) | (simp; omega) | omega))))
          iterate 6 (show _ ≠ w3.heap.size + 1 + 1; omega)
          · exact (((HIo.out.on Hb7.out).far (HLp.out.on Hb7.out) (by decide) 0 _).far ((HLp.out.on Hb7.out).put 0 _) (by decide) 1 _).on ((Below.refl _ _).alloc (Nat.le_refl _) _)
          · exact ((HI7.out.far (HLp.out.on Hb7.out) (by decide) 0 _).far ((HLp.out.on Hb7.out).put 0 _) (by decide) 1 _).on ((Below.refl _ _).alloc (Nat.le_refl _) _)
        case measure => simp [intOf]; omega
      · have D : Hid (∀ W v1, Below w.heap.size w W → IsNum W v1 (negZ (powN x k).1) (powN x k).1.natAbs → Calls Try.prog 27 #[v1, .agg #[.bool nx, .slice A p c]] W (fun e w' => ∃ v, e = .returned (.tuple #[v, .int .i64 2]) ∧ IsNum w' v (negZ 0) (Int.natAbs 0) ∧ Below W.heap.size W w')) := by
          intro W v1 hW h1
          have k7 := C7.out k W v1 hW h1
          rw [fitR_2 hf] at k7
          exact k7
        have R : Hid (powN x q = (0, 2)) := powN_two (by rw [powN_succ Hk.out, fitR_2 hf]) (show k + 1 ≤ q by omega)
        clear hf
        go_wp2_with fail
        refine (D.out _ _ HB.out ⟨Ak, ck, rfl, HIp.out⟩).mono ?_
        rintro e w7 ⟨v7, rfl, ⟨A7, c7, rfl, hI7⟩, hb7⟩
        have HLr7 := Lib.hid (HLr.out.on hb7)
        have hz7 := hb7.size
        have : w.heap.size + 1 + 1 < w7.heap.size := by omega
        have : w3.heap.size + 1 + 1 < w7.heap.size := by omega
        have hB7 : Below w.heap.size w w7 := by repeat (first | (with_reducible exact Below.refl _ _) | (with_reducible refine Below.drew ?_) | (refine Below.setCell ?_ (by first | exact Nat.le_refl _ | (simp; done) | (simp; omega) | omega) _) | (refine Below.alloc ?_ (by first | exact Nat.le_refl _ | (simp; done) | (simp; omega) | omega) _) | (refine Below.trans ?_ (Below.mono (by assumption) (by first | exact Nat.le_refl _ | (simp; done) | (simp; omega) | omega))))
        clear hI7 hb7 x0 x1 x2 x3 r0 r1 r2 r3 o0 o1 o2 o3 p0 p1 p2 p3
        obtain ⟨r0, r1, r2, r3⟩ := HLr7.out.cells2
        go_wp2
        refine bodyPost_ret (v := .tuple #[.agg #[.bool false, .slice none 0 0], .int .i64 2]) (by simp [results, Try.results31, go_sem, *]) rfl ⟨_, by rw [R.out]; rfl, by rw [R.out]; exact isnum0 _, ?_⟩
        repeat (first | (with_reducible exact Below.refl _ _) | (with_reducible refine Below.drew ?_) | (refine Below.setCell ?_ (by first | exact Nat.le_refl _ | (simp; done) | (simp; omega) | omega) _) | (refine Below.alloc ?_ (by first | exact Nat.le_refl _ | (simp; done) | (simp; omega) | omega) _) | (refine Below.trans ?_ (Below.mono (by assumption) (by first | exact Nat.le_refl _ | (simp; done) | (simp; omega) | omega))))
    · obtain rfl : k = q := by omega
      have u1 : ¬ ((k : Int) < (k : Int)) := by omega
      have u2 : ¬ ((k : Int) < -(k : Int)) := by omega
      have u3 : ¬ ((k : Int) < 0) := by omega
      go_wp2
      refine bodyPost_ret (v := .tuple #[.agg #[.bool (negZ (powN x k).1), .slice Ak (dig (powN x k).1.natAbs).length ck], .int .i64 0]) (by simp [results, Try.results31, go_sem, *]) rfl ⟨_, by rw [Hk.out]; rfl, ⟨Ak, ck, rfl, ?_⟩, ?_⟩
      · exact (HIp.out.far HLr.out (by decide) 0 _).far (HLr.out.put 0 _) (by decide) 1 _
      · repeat (first | (with_reducible exact Below.refl _ _) | (with_reducible refine Below.drew ?_) | (refine Below.setCell ?_ (by first | exact Nat.le_refl _ | (simp; done) | (simp; omega) | omega) _) | (refine Below.alloc ?_ (by first | exact Nat.le_refl _ | (simp; done) | (simp; omega) | omega) _) | (refine Below.trans ?_ (Below.mono (by assumption) (by first | exact Nat.le_refl _ | (simp; done) | (simp; omega) | omega))))
end Go.Proofs.Ytanfgolelhmdhaa
