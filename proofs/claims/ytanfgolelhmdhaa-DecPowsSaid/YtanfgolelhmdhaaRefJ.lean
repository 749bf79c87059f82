/- The reference's lower, Trunc. -/
import Derived.Test.YtanfgolelhmdhaaRefI
import Derived.Test.YtanfgolelhmdhaaDecL
namespace Go.Proofs.Ytanfgolelhmdhaa
set_option linter.unusedSimpArgs false
set_option linter.unusedVariables false
set_option linter.unnecessarySimpa false
open Go.RowKit

theorem dig_lower (m : Nat) : dig (m / 1000000) = (dig m).drop 6 := (dig_drop m 6).symm
set_option maxHeartbeats 1000000 in
theorem lower_any {A : Option Addr} {c m : Nat} {w : World} (h : Ints w A c (dig m)) (hl : (dig m).length ≤ 1000) :
    Calls Try.prog 57 #[.slice A (dig m).length c] w fun e w' => ∃ A' c', e = .returned (.slice A' (dig (m / 1000000)).length c') ∧ Ints w A' c' (dig (m / 1000000)) ∧ w = w' := by
  rw [dig_lower]
  generalize dig m = l at *
  by_cases h6 : l.length ≤ 6
  · have d6 : Hid (l.drop 6 = []) := List.drop_of_length_le h6
    have t1 : decide (l.length ≤ 6) = true := by simpa using h6
    have t2 : ((l.length : Nat) : Int) ≤ 6 := by omega
    clear h
    generalize l.length = p at *
    go_enter Try.func57, Try.ntmps57
    go_wp2
    go_ret
    rw [d6.out]
    exact ⟨none, 0, rfl, Ints.nil _, rfl⟩
  · have t1 : decide (l.length ≤ 6) = false := by simpa using h6
    have t2 : (6 : Int) < ((l.length : Nat) : Int) := by omega
    have hc := h.1
    have hcm := h.2.1
    have t3 : (6 : Int) < (c : Int) := by omega
    have t4 : ((l.length : Nat) : Int) ≤ (c : Int) := by omega
    obtain ⟨b, off, cur, rfl, hb, hcell⟩ := h.2.2 (by rintro rfl; simp at h6)
    have R : Hid (Ints w (some ⟨b, off + 6, none⟩) (c - 6) (l.drop 6)) := by
      refine ⟨by rw [List.length_drop]; omega, by omega, fun _ => ⟨b, off + 6, cur, rfl, hb, fun j hj => ?_⟩⟩
      rw [List.length_drop] at hj
      rw [show off + 6 + j = off + (6 + j) from by omega, hcell (6 + j) (by omega)]
      rw [List.getD_eq_getElem?_getD, List.getD_eq_getElem?_getD, List.getElem?_drop]
    have L : Hid ((l.drop 6).length = l.length - 6) := List.length_drop
    clear hcell hb h hcm
    generalize l.length = p at *
    go_enter Try.func57, Try.ntmps57
    go_wp2
    go_ret
    exact ⟨some ⟨b, off + 6, none⟩, c - 6, by rw [L.out]; rfl, R.out, rfl⟩

theorem zeros6 (w : World) (B g : Nat) (hg : g = w.heap.size) (hB : B ≤ w.heap.size) :
    (w.alloc (.cells #[.int .i64 0, .int .i64 0, .int .i64 0, .int .i64 0, .int .i64 0, .int .i64 0] 3)).ownsRow B 3 1 (.slice (some ⟨g, 0, none⟩) 6 6) 6 (ivs [0, 0, 0, 0, 0, 0]) := by
  subst hg
  exact ⟨rfl, .inr ⟨w.heap.size, 6, _, rfl, hB, heap_alloc_new w _, Nat.le_refl _, by simp [maxLen], rfl, rfl⟩⟩
theorem digs_zero6 {l : List Nat} (h : Digs l) : Digs ([0, 0, 0, 0, 0, 0] ++ l) :=
  Digs.app (fun x hx => by simp at hx; omega) h
theorem val_zero6 (l : List Nat) : dval ([0, 0, 0, 0, 0, 0] ++ l) = 1000000 * dval l := by
  simp only [List.cons_append, List.nil_append, dval]; omega

set_option maxHeartbeats 4000000 in
theorem rtrunc_any {v : Value} {x : Int} {w : World} (h : IsZ w v x) (hl : x.natAbs < 10 ^ 200) :
    Calls Try.prog 38 #[v] w (RetNum (negZ (truncZ x)) (truncZ x).natAbs w) := by
  obtain ⟨i0, hi0, hz0, hz1, hz2⟩ := info_parts int_info
  obtain ⟨A, c, rfl, hI⟩ := h
  have hm : x.natAbs / 1000000 * 1000000 = (truncZ x).natAbs := by rw [← trunc_abs]; omega
  have hz : signB (negZ x) (truncZ x).natAbs = negZ (truncZ x) := signB_z rfl (fun h0 => trunc_sgn (by rw [trunc_abs]; exact h0))
  have hlen : (dig x.natAbs).length ≤ 900 := dig_short hl (by omega)
  have hlen2 : (dig (truncZ x).natAbs).length ≤ 1000 := Nat.le_trans (dig_len_le (k := 200) (by rw [← hm]; omega)) (by omega)
  have hlen3 : (dig (x.natAbs / 1000000)).length ≤ 900 := dig_short (k := 200) (by omega) (by omega)
  have C1 : Hid (∀ W, Below w.heap.size w W → Calls Try.prog 57 #[.slice A (dig x.natAbs).length c] W fun e w' => ∃ A' c', e = .returned (.slice A' (dig (x.natAbs / 1000000)).length c') ∧ Ints W A' c' (dig (x.natAbs / 1000000)) ∧ W = w') :=
    fun W hW => lower_any (hI.on hW) (by omega)
  have hv : dval ([0, 0, 0, 0, 0, 0] ++ dig (x.natAbs / 1000000)) = (truncZ x).natAbs := by rw [val_zero6, dval_dig, ← hm, Nat.mul_comm]
  have C2 : Hid (∀ W A c, Ints W A c ([0, 0, 0, 0, 0, 0] ++ dig (x.natAbs / 1000000)) → Calls Try.prog 47 #[.slice A ([0, 0, 0, 0, 0, 0] ++ dig (x.natAbs / 1000000)).length c] W (RetInts (truncZ x).natAbs W)) := by
    intro W A c hA
    have k := cut_any hA (by rw [List.length_append]; simp only [List.length_cons, List.length_nil]; omega) (digs_zero6 (dig_lt _))
    rw [hv] at k
    exact k
  have C3 : Hid (∀ W A c, Ints W A c (dig (truncZ x).natAbs) → Calls Try.prog 48 #[.bool (negZ x), .slice A (dig (truncZ x).natAbs).length c] W (RetNum (negZ (truncZ x)) (truncZ x).natAbs W)) := by
    intro W A c hA
    rw [← hz]
    exact rsigned_any hA hlen2
  have Hl3 := Lib.hid hlen3
  clear hI hm hz hlen hlen2 hlen3 hv hl
  generalize negZ (truncZ x) = n2 at *
  generalize (truncZ x).natAbs = m2 at *
  generalize (dig x.natAbs).length = p at *
  generalize negZ x = nx at *
  generalize x.natAbs / 1000000 = q at *
  go_enter Try.func38, Try.ntmps38
  go_wp2_with fail
  refine (C1.out _ (by repeat (first | (with_reducible exact Below.refl _ _) | (with_reducible refine Below.drew ?_) | (refine Below.setCell ?_ (by first | exact Nat.le_refl _ | (simp; done) | (simp; omega) | omega) _) | (refine Below.alloc ?_ (by first | exact Nat.le_refl _ | (simp; done) | (simp; omega) | omega) _) | (refine Below.trans ?_ (Below.mono (by assumption) (by first | exact Nat.le_refl _ | (simp; done) | (simp; omega) | omega)))))).mono ?_
  rintro e w1 ⟨A1, c1, rfl, hI1, rfl⟩
  have HB3 : Hid (Below w.heap.size w (((w.alloc (.cells #[.bool nx, .slice A p c] 35)).alloc (.cells #[.bool false, .slice none 0 0] 35)).alloc (.cells #[.int .i64 0, .int .i64 0, .int .i64 0, .int .i64 0, .int .i64 0, .int .i64 0] 3))) := by
    show Below _ _ _
    repeat (first | (with_reducible exact Below.refl _ _) | (with_reducible refine Below.drew ?_) | (refine Below.setCell ?_ (by first | exact Nat.le_refl _ | (simp; done) | (simp; omega) | omega) _) | (refine Below.alloc ?_ (by first | exact Nat.le_refl _ | (simp; done) | (simp; omega) | omega) _) | (refine Below.trans ?_ (Below.mono (by assumption) (by first | exact Nat.le_refl _ | (simp; done) | (simp; omega) | omega))))
  have HLr : Hid (Lies (((w.alloc (.cells #[.bool nx, .slice A p c] 35)).alloc (.cells #[.bool false, .slice none 0 0] 35)).alloc (.cells #[.int .i64 0, .int .i64 0, .int .i64 0, .int .i64 0, .int .i64 0, .int .i64 0] 3)) (w.heap.size + 1) 35 #[.bool false, .slice none 0 0]) := by
    have h := ((Lies.fresh (w.alloc (.cells #[.bool nx, .slice A p c] 35)) 35 #[.bool false, .slice none 0 0]).alloc (.cells #[.int .i64 0, .int .i64 0, .int .i64 0, .int .i64 0, .int .i64 0, .int .i64 0] 3))
    rw [show (w.alloc (.cells #[.bool nx, .slice A p c] 35)).heap.size = w.heap.size + 1 from by simp] at h
    exact h
  have HO := Lib.hid (zeros6 ((w.alloc (.cells #[.bool nx, .slice A p c] 35)).alloc (.cells #[.bool false, .slice none 0 0] 35)) (w.heap.size + 1 + 1) (w.heap.size + 1 + 1) (by simp) (by simp))
  have N4 : Hid (6 + (dig q).length ≤ 100000) := by show _ ≤ _; have := Hl3.out; omega
  have N6 : Hid (w.heap.size + 1 + 1 ≤ (((w.alloc (.cells #[.bool nx, .slice A p c] 35)).alloc (.cells #[.bool false, .slice none 0 0] 35)).alloc (.cells #[.int .i64 0, .int .i64 0, .int .i64 0, .int .i64 0, .int .i64 0, .int .i64 0] 3)).heap.size) := by show _ ≤ _; simp
  have HI1 := Lib.hid hI1; clear hI1
  generalize hd : dig q = lq at *
  clear hd
  go_wp2_with (at_builtin; refine wpList_app_ints _ rfl (.tmp 4) (.tmp 7) _ rfl (w.heap.size + 1 + 1) i0 Try.underlying33 hi0 hz0 hz1 hz2 (.slice (some ⟨w.heap.size + 1 + 1, 0, none⟩) 6 6) 6 [0, 0, 0, 0, 0, 0] rfl HO.out A1 c1 lq rfl HI1.out N4.out N6.out ?_; intro v2 w2 hown2 hgrow2)
  obtain ⟨A2, c2, rfl, hI2⟩ := Ints.of_own hown2
  have hB2 : Below w.heap.size w w2 := HB3.out.grown hgrow2 (by simp; omega) (fun k hk => by simp [Value.ownBlock] at hk; omega)
  have hz2 : w.heap.size + 1 + 1 + 1 ≤ w2.heap.size := by have := hgrow2.size; simp at this; omega
  have k0 : w2.cell? ⟨w.heap.size, 0, none⟩ = some (.bool nx) := by
    refine (World.cell?_of_block (a := ⟨w.heap.size, 0, none⟩) (hgrow2.block _ (by simp; omega) (by simp [Value.ownBlock]; omega))).trans ?_
    go_simp
  have hL2 : Lies w2 (w.heap.size + 1) 35 #[.bool false, .slice none 0 0] := (hgrow2.block _ (by simp) (by simp [Value.ownBlock])).trans HLr.out
  clear hgrow2 hown2
  have : w.heap.size < w2.heap.size := by omega
  have : w.heap.size + 1 < w2.heap.size := by omega
  have HI2 := Lib.hid hI2; clear hI2
  have HL2 := Lib.hid hL2
  obtain ⟨x0, x1, f0, f1⟩ := hL2.cells2
  clear hL2
  refine wp_region_held_drew (S := fun w' => w'.cell? ⟨w.heap.size, 0, none⟩ = some (.bool nx)) (by kernel_rfl) (by go_simp) (fun hHeld => ?_)
  refine wpAnyH_take (i := 0) (v := ?_) rfl (by kernel_rfl) (by kernel_rfl) (by kernel_rfl) (fun _ _ _ h => h) (Or.inl ⟨by rfl, ?_⟩) hHeld ?_
  rotate_left
  · (intro w0 hSw; (try dsimp only at hSw); (first | (go_simp; done) | (go_simp; with_reducible rfl)))
  (try simp only [List.getElem_toArray, List.getElem_cons_zero, List.getElem_cons_succ, Act.put, List.setIfInBounds_toArray, List.set_cons_zero, List.set_cons_succ])
  refine wpAnyH_take (i := 1) (v := ?_) rfl (by kernel_rfl) (by kernel_rfl) (by kernel_rfl) (fun _ _ _ h => h) (Or.inl ⟨by rfl, ?_⟩) hHeld ?_
  rotate_left
  · (intro w0 hSw; (try dsimp only at hSw); (first | (go_simp; done) | (go_simp; with_reducible rfl)))
  (try simp only [List.getElem_toArray, List.getElem_cons_zero, List.getElem_cons_succ, Act.put, List.setIfInBounds_toArray, List.set_cons_zero, List.set_cons_succ])
  refine wpAnyH_take (i := 2) (v := ?_) rfl (by kernel_rfl) (by kernel_rfl) (by kernel_rfl) (fun _ _ _ h => h) (Or.inl ⟨by rfl, ?_⟩) hHeld ?_
  rotate_left
  · (intro w0 hSw; (try dsimp only at hSw); (first | (go_simp; done) | (go_simp; with_reducible rfl)))
  (try simp only [List.getElem_toArray, List.getElem_cons_zero, List.getElem_cons_succ, Act.put, List.setIfInBounds_toArray, List.set_cons_zero, List.set_cons_succ])
  refine wpAnyH_ready (rs := [3]) (by kernel_rfl) (by simp) (AllReadyH.cons rfl (fun K hK => ?_) AllReadyH.nil)
  go_simp
  refine (C2.out _ _ _ (HI2.out.on (Below.refl _ _).drew)).mono ?_; rintro e3 w3 ⟨A3, c3, rfl, hI3, hb3⟩; obtain ⟨hc3, hf3⟩ := bcell hb3; (try simp only [World.size_drew, World.cell?_drew, World.frozen?_drew] at hc3 hf3); have hz3 := hb3.size; (try simp at hz3); have : w.heap.size < w3.heap.size := (by omega); have : w.heap.size + 1 < w3.heap.size := (by omega); have hL3 := HL2.out.drew.on hb3; (try dsimp only)
  refine hK.out _ _ (by go_simp) (fun hHeld2 => ?_)
  clear hK K hHeld; have hHeld := hHeld2; clear hHeld2
  (try simp only [List.getElem_toArray, List.getElem_cons_zero, List.getElem_cons_succ, Act.put, List.setIfInBounds_toArray, List.set_cons_zero, List.set_cons_succ])
  refine wpAnyH_ready (rs := [4]) (by kernel_rfl) (by simp) (AllReadyH.cons rfl (fun K hK => ?_) AllReadyH.nil)
  go_simp
  refine (C3.out _ _ _ hI3).mono ?_; rintro e4 w4 ⟨v4, rfl, ⟨A4, c4, rfl, hI4⟩, hb4⟩; obtain ⟨hc4, hf4⟩ := bcell hb4; have hz4 := hb4.size; (try simp at hz4); have : w.heap.size < w4.heap.size := (by omega); have : w.heap.size + 1 < w4.heap.size := (by omega); have hL4 := hL3.on hb4; (try dsimp only)
  refine hK.out _ _ (by go_simp) (fun hHeld2 => ?_)
  clear hK K hHeld; have hHeld := hHeld2; clear hHeld2
  (try simp only [List.getElem_toArray, List.getElem_cons_zero, List.getElem_cons_succ, Act.put, List.setIfInBounds_toArray, List.set_cons_zero, List.set_cons_succ])
  refine wpAnyH_ready (rs := [5]) (by kernel_rfl) (by simp) (AllReadyH.cons rfl (fun K hK => ?_) AllReadyH.nil)
  go_simp
  refine hK.out _ _ (by go_simp) (fun hHeld2 => ?_)
  clear hK K hHeld; have hHeld := hHeld2; clear hHeld2
  (try simp only [List.getElem_toArray, List.getElem_cons_zero, List.getElem_cons_succ, Act.put, List.setIfInBounds_toArray, List.set_cons_zero, List.set_cons_succ])
  refine wpAnyH_done (by kernel_rfl) ?_ _
  clear hHeld
  have HL4 := Lib.hid hL4
  have HI4 := Lib.hid hI4
  clear hI3 hL3 hI4 hL4
  go_wp2
  refine bodyPost_ret (v := .agg #[.bool n2, .slice A4 (dig m2).length c4]) (by simp [results, Try.results38, go_sem, *]) rfl ⟨_, rfl, ⟨A4, c4, rfl, ?_⟩, ?_⟩
  · exact (HI4.out.far HL4.out (by decide) 0 _).far (HL4.out.put 0 _) (by decide) 1 _
  · repeat (first | (with_reducible exact Below.refl _ _) | (with_reducible refine Below.drew ?_) | (refine Below.setCell ?_ (by first | exact Nat.le_refl _ | (simp; done) | (simp; omega) | omega) _) | (refine Below.alloc ?_ (by first | exact Nat.le_refl _ | (simp; done) | (simp; omega) | omega) _) | (refine Below.trans ?_ (Below.mono (by assumption) (by first | exact Nat.le_refl _ | (simp; done) | (simp; omega) | omega))))
end Go.Proofs.Ytanfgolelhmdhaa
