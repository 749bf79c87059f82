/- The contract of Text. -/
import Derived.Test.YtfecnogmjfmghaaDoorNumK
import Derived.Test.YtfecnogmjfmghaaDoorNumL
import Derived.Test.YtfecnogmjfmghaaDoorLin
import Derived.Deep.WholeRow
namespace Go.Proofs.YtfecnogmjfmghaaDoor
set_option linter.unusedSimpArgs false
set_option linter.unusedVariables false
set_option linter.unnecessarySimpa false
open Go.RowKit

/-- The text ahead of the point, and what stands behind it; the whole text. -/
def headL (b : Bool) (D : List UInt8) : List UInt8 := (if b then [45] else []) ++ (lead (D.take 29) ++ (D.drop 29).take 1)
def textD (b : Bool) (D : List UInt8) : List UInt8 := if trail (D.drop 30) = [] then headL b D else headL b D ++ [46] ++ trail (D.drop 30)
def textL (b : Bool) (m : Nat) : List UInt8 := if goodB b m = true then textD b (d36 m) else []

theorem run_mid (g i m : Nat) (c : Nat) (D : List UInt8) (T : TypeId) (w : World) (r : Row w g T (bvs D).toArray) (hm : i + m ≤ D.length) (hc : m ≤ c) (hcm : c ≤ 1000) :
    (convert 22 9 (.slice (some ⟨g, i, none⟩) m c)).run Tryd.prog w = .ok (.string (S8 ((D.drop i).take m))) w := by
  have hl : ((D.drop i).take m).length = m := by rw [List.length_take, List.length_drop]; omega
  exact run_str (v := .slice (some ⟨g, i, none⟩) m c) ⟨_, c, by rw [hl], by rw [hl]; exact hc, by unfold maxLen; omega, r.u8s hm⟩
theorem run_at_mid (b i j : Nat) (hi : i ≤ 35) (hij : i ≤ j) (hj : j ≤ 36) (x y : Int) (hx : x = (i : Int)) (hy : y = (j : Int)) (w : World) :
    (Instr.sliceAt 69 (.pointer (some ⟨b, 0, none⟩)) (some (.int .i64 x)) (some (.int .i64 y)) none).run Tryd.prog w = .ok (.slice (some ⟨b, i, none⟩) (j - i) (36 - i)) w := by
  subst hx hy
  have ht : Tryd.prog.underlying 69 = some (.array (Tryd.prog.arrayLen 69) (Tryd.prog.elem 69)) := by kernel_rfl
  have hn : Tryd.prog.arrayLen 69 = 36 := by kernel_rfl
  have hz : ∀ w, (Go.sizeOf (Tryd.prog.elem 69)).run Tryd.prog w = .ok 1 w := fun w => by kernel_rfl
  rw [run_sliceAt_array_lh w 69 _ ht .i64 .i64 _ _ (by omega) (by omega) (by rw [hn]; omega), hz]
  simp only [Result.andThen, slicedAt, hn, Int.toNat_natCast, Nat.mul_one]
  rw [if_neg (by omega), add_lit', Nat.zero_add]

theorem text_bad (b : Bool) (m : Nat) (h : goodB b m = false) (w : World) :
    Calls Tryd.prog 18 #[MV b m] w fun e w' => e = .returned (.string (S8 (textL b m))) ∧ Below w.heap.size w w' := by
  have C : Hid (∀ w, Calls Tryd.prog 15 #[MV b m] w fun e w' => e = .returned (.bool false) ∧ Below w.heap.size w w') := by
    intro w
    have := good_m b m w
    rwa [h] at this
  have e : textL b m = [] := by unfold textL; rw [h]; simp
  rw [e]
  clear e h
  go_enter Tryd.func18, Tryd.ntmps18
  go_wp2_with fail; refine (C.out _).mono ?_; rintro ew1 w1 ⟨rfl, hbw1⟩; obtain ⟨hcw1, hfw1⟩ := bcell hbw1; (try simp only [World.size_drew, World.cell?_drew, World.frozen?_drew] at hcw1 hfw1); have hzw1 := hbw1.size; (try simp at hzw1); (try dsimp only)
  go_wp2
  go_ret
  refine ⟨rfl, ?_⟩
  repeat (first | (with_reducible exact Below.refl _ _) | (with_reducible refine Below.drew ?_) | (refine Below.setCell ?_ (by first | exact Nat.le_refl _ | (simp; done) | (simp; omega) | omega) _) | (refine Below.alloc ?_ (by first | exact Nat.le_refl _ | (simp; done) | (simp; omega) | omega) _) | (refine Below.trans ?_ (Below.mono (by assumption) (by first | exact Nat.le_refl _ | (simp; done) | (simp; omega) | omega))))

theorem trail_len (l : List UInt8) : (trail l).length ≤ l.length := by
  unfold trail; rw [List.length_reverse]; have := lead_le l.reverse; rwa [List.length_reverse] at this

set_option maxRecDepth 100000 in
set_option maxHeartbeats 4000000 in
theorem text_core (b : Bool) (m : Nat) (D : List UInt8) (hl : D.length = 36)
    (CG : Hid (∀ w, Calls Tryd.prog 15 #[MV b m] w fun e w' => e = .returned (.bool true) ∧ Below w.heap.size w w'))
    (CS : Hid (∀ w, Calls Tryd.prog 36 #[MV b m] w fun e w' => e = .returned (.agg (bvs D).toArray) ∧ Below w.heap.size w w')) (w : World) :
    Calls Tryd.prog 18 #[MV b m] w fun e w' => e = .returned (.string (S8 (textD b D))) ∧ Below w.heap.size w w' := by
  have HL := Lib.hid hl; clear hl
  go_enter Tryd.func18, Tryd.ntmps18
  go_wp2_with fail; refine (CG.out _).mono ?_; rintro ew1 w1 ⟨rfl, hbw1⟩; obtain ⟨hcw1, hfw1⟩ := bcell hbw1; (try simp only [World.size_drew, World.cell?_drew, World.frozen?_drew] at hcw1 hfw1); have hzw1 := hbw1.size; (try simp at hzw1); have : w.heap.size < w1.heap.size := (by omega); (try dsimp only)
  go_wp2_with fail
  refine (CS.out _).mono ?_; rintro ew2 w2 ⟨rfl, hbw2⟩; obtain ⟨hcw2, hfw2⟩ := bcell hbw2; (try simp only [World.size_drew, World.cell?_drew, World.frozen?_drew] at hcw2 hfw2); have hzw2 := hbw2.size; (try simp at hzw2); have : w.heap.size < w2.heap.size := (by omega); (try dsimp only)
  have hi : (Tryd.prog.info? 69).map (·.size) = some (bvs D).toArray.size := by
    rw [List.size_toArray, bvs_len, HL.out]; kernel_rfl
  have hall : (bvs D).toArray.all (·.oneCell') = true := by
    rw [Array.all_eq_true']; intro x hx; exact bvs_one D x (by simpa using hx)
  have hl36 : (bvs D).length = 36 := by rw [bvs_len, HL.out]
  have hst : (storeCells ⟨w2.heap.size, 0, none⟩ (bvs D) 0).run Tryd.prog (w2.alloc (.cells #[.int .u8 0, .int .u8 0, .int .u8 0, .int .u8 0, .int .u8 0, .int .u8 0, .int .u8 0, .int .u8 0, .int .u8 0, .int .u8 0, .int .u8 0, .int .u8 0, .int .u8 0, .int .u8 0, .int .u8 0, .int .u8 0, .int .u8 0, .int .u8 0, .int .u8 0, .int .u8 0, .int .u8 0, .int .u8 0, .int .u8 0, .int .u8 0, .int .u8 0, .int .u8 0, .int .u8 0, .int .u8 0, .int .u8 0, .int .u8 0, .int .u8 0, .int .u8 0, .int .u8 0, .int .u8 0, .int .u8 0, .int .u8 0] 69)) = .ok () (w2.alloc (.cells (bvs D).toArray 69)) := by
    have := run_storeCells_new (P := Tryd.prog) w2 69 #[.int .u8 0, .int .u8 0, .int .u8 0, .int .u8 0, .int .u8 0, .int .u8 0, .int .u8 0, .int .u8 0, .int .u8 0, .int .u8 0, .int .u8 0, .int .u8 0, .int .u8 0, .int .u8 0, .int .u8 0, .int .u8 0, .int .u8 0, .int .u8 0, .int .u8 0, .int .u8 0, .int .u8 0, .int .u8 0, .int .u8 0, .int .u8 0, .int .u8 0, .int .u8 0, .int .u8 0, .int .u8 0, .int .u8 0, .int .u8 0, .int .u8 0, .int .u8 0, .int .u8 0, .int .u8 0, .int .u8 0, .int .u8 0] (bvs D).toArray hi (by show 36 = _; rw [List.size_toArray, hl36]) hall
    simpa using this
  clear hi hall
  go_upto_region 5 with fail
  have rD : Row (w2.alloc (.cells (bvs D).toArray 69)) w2.heap.size 69 (bvs D).toArray := Row.new w2 _ _
  have r0 : Row (w2.alloc (.cells (bvs D).toArray 69)) w.heap.size 26 #[.bool b, .int .u64 (hiN m : Int), .int .u64 (loN m : Int)] := (((Row.new w _ _).on hbw1).on hbw2).alloc _
  have hB3 : Below w.heap.size w (w2.alloc (.cells (bvs D).toArray 69)) := by repeat (first | (with_reducible exact Below.refl _ _) | (with_reducible refine Below.drew ?_) | (refine Below.setCell ?_ (by first | exact Nat.le_refl _ | (simp; done) | (simp; omega) | omega) _) | (refine Below.alloc ?_ (by first | exact Nat.le_refl _ | (simp; done) | (simp; omega) | omega) _) | (refine Below.trans ?_ (Below.mono (by assumption) (by first | exact Nat.le_refl _ | (simp; done) | (simp; omega) | omega))))
  generalize w2.heap.size = g at *
  generalize w2.alloc (.cells (bvs D).toArray 69) = w3 at *
  clear hst hbw1 hbw2 hcw1 hfw1 hcw2 hfw2
  have k0 := r0.cell 0
  simp only [List.getElem?_toArray, List.getElem?_cons_zero, List.getElem?_cons_succ] at k0
  have hc1 : ∀ W, Row W g 69 (bvs D).toArray → (convert 22 9 (.slice (some ⟨g, 0, none⟩) 29 36)).run Tryd.prog W = .ok (.string (S8 ((D.drop 0).take 29))) W := fun W hW => run_mid g 0 29 36 D _ W hW (by rw [HL.out]; omega) (by omega) (by omega)
  have hc2 : ∀ W, Row W g 69 (bvs D).toArray → (convert 22 9 (.slice (some ⟨g, 29, none⟩) 1 7)).run Tryd.prog W = .ok (.string (S8 ((D.drop 29).take 1))) W := fun W hW => run_mid g 29 1 7 D _ W hW (by rw [HL.out]; omega) (by omega) (by omega)
  have hc3 : ∀ W, Row W g 69 (bvs D).toArray → (convert 22 9 (.slice (some ⟨g, 30, none⟩) 6 6)).run Tryd.prog W = .ok (.string (S8 ((D.drop 30).take 6))) W := fun W hW => run_mid g 30 6 6 D _ W hW (by rw [HL.out]; omega) (by omega) (by omega)
  have e1 : (D.drop 0).take 29 = D.take 29 := rfl
  have e3 : (D.drop 30).take 6 = D.drop 30 := List.take_of_length_le (by rw [List.length_drop, HL.out]; omega)
  rw [e1] at hc1
  rw [e3] at hc3
  have hs1 : ∀ W, (Instr.sliceAt 69 (.pointer (some ⟨g, 0, none⟩)) none (some (.int .i64 29)) none).run Tryd.prog W = .ok (.slice (some ⟨g, 0, none⟩) 29 36) W := run_at_to g 29 (by omega) 29 rfl
  have hs2 : ∀ W, (Instr.sliceAt 69 (.pointer (some ⟨g, 0, none⟩)) (some (.int .i64 29)) (some (.int .i64 30)) none).run Tryd.prog W = .ok (.slice (some ⟨g, 29, none⟩) 1 7) W := run_at_mid g 29 30 (by omega) (by omega) (by omega) 29 30 rfl rfl
  have hs3 : ∀ W, (Instr.sliceAt 69 (.pointer (some ⟨g, 0, none⟩)) (some (.int .i64 30)) none none).run Tryd.prog W = .ok (.slice (some ⟨g, 30, none⟩) 6 6) W := run_at_from g 30 (by omega) 30 rfl
  have L1 := lead_le (D.take 29)
  have L2 := trail_len (D.drop 30)
  rw [List.length_take] at L1
  rw [List.length_drop, HL.out] at L2
  have CL : Hid (∀ W, Calls Tryd.prog 37 #[.string (S8 (D.take 29)), .string ⟨#[48]⟩] W fun e w' => e = .returned (.string (S8 (lead (D.take 29)))) ∧ W = w') := trimL_u _ (by rw [List.length_take]; omega)
  have CR : Hid (∀ W, Calls Tryd.prog 38 #[.string (S8 (D.drop 30)), .string ⟨#[48]⟩] W fun e w' => e = .returned (.string (S8 (trail (D.drop 30)))) ∧ W = w') := trimR_u _ (by rw [List.length_drop, HL.out]; omega)
  have L3 : ((D.drop 29).take 1).length ≤ 1 := by rw [List.length_take]; omega
  have a1 : (∀ W, (Op.stringOp .add (S8 (lead (D.take 29))) (S8 ((D.drop 29).take 1))).run Tryd.prog W = .ok (.string (S8 (lead (D.take 29) ++ (D.drop 29).take 1))) W) := s8_add _ _ (by omega)
  have a2 : (∀ W, (Op.stringOp .add ⟨#[]⟩ (S8 (lead (D.take 29) ++ (D.drop 29).take 1))).run Tryd.prog W = .ok (.string (S8 (lead (D.take 29) ++ (D.drop 29).take 1))) W) := s8_add [] _ (by simp only [List.length_append, List.length_cons, List.length_nil]; omega)
  have a3 : (∀ W, (Op.stringOp .add ⟨#[45]⟩ (S8 (lead (D.take 29) ++ (D.drop 29).take 1))).run Tryd.prog W = .ok (.string (S8 (45 :: (lead (D.take 29) ++ (D.drop 29).take 1)))) W) := s8_add [45] _ (by simp only [List.length_append, List.length_cons, List.length_nil]; omega)
  clear e1 e3
  cases b
  · have X1 : Hid (∀ W, (Op.stringOp .add (S8 (lead (D.take 29) ++ (D.drop 29).take 1)) ⟨#[46]⟩).run Tryd.prog W = .ok (.string (S8 ((lead (D.take 29) ++ (D.drop 29).take 1) ++ [46]))) W) := s8_add _ [46] (by simp only [List.length_append, List.length_cons, List.length_nil]; omega)
    have X2 : Hid (∀ W, (Op.stringOp .add (S8 ((lead (D.take 29) ++ (D.drop 29).take 1) ++ [46])) (S8 (trail (D.drop 30)))).run Tryd.prog W = .ok (.string (S8 (((lead (D.take 29) ++ (D.drop 29).take 1) ++ [46]) ++ trail (D.drop 30)))) W) := s8_add _ _ (by simp only [List.length_append, List.length_cons, List.length_nil]; omega)
    have HT : Hid (textD false D = if trail (D.drop 30) = [] then [] ++ (lead (D.take 29) ++ (D.drop 29).take 1) else [] ++ (lead (D.take 29) ++ (D.drop 29).take 1) ++ [46] ++ trail (D.drop 30)) := rfl
    generalize lead (D.take 29) ++ (D.drop 29).take 1 = HH at *
    generalize D.take 29 = D29 at *
    generalize (D.drop 29).take 1 = D1 at *
    generalize D.drop 30 = D30 at *
    go_upto_region 8 with fail
    refine wp_region_held_drew (S := fun w' => Row w' g 69 (bvs D).toArray) (by kernel_rfl) rD (fun hHeld => ?_)
    refine wpAnyH_take (i := 0) (v := ?_) rfl (by kernel_rfl) (by kernel_rfl) (by kernel_rfl) (fun _ _ _ h => h) (Or.inl ⟨by rfl, ?_⟩) hHeld ?_
    rotate_left
    · (intro w0 hSw; (try dsimp only at hSw); (first | (go_simp; done) | (go_simp; with_reducible rfl)))
    (try simp only [List.getElem_toArray, List.getElem_cons_zero, List.getElem_cons_succ, Act.put, List.setIfInBounds_toArray, List.set_cons_zero, List.set_cons_succ])
    refine wpAnyH_take (i := 1) (v := ?_) rfl (by kernel_rfl) (by kernel_rfl) (by kernel_rfl) (fun _ _ _ h => h) (Or.inl ⟨by rfl, ?_⟩) hHeld ?_
    rotate_left
    · (intro w0 hSw; (try dsimp only at hSw); (first | (go_simp; done) | (go_simp; with_reducible rfl)))
    (try simp only [List.getElem_toArray, List.getElem_cons_zero, List.getElem_cons_succ, Act.put, List.setIfInBounds_toArray, List.set_cons_zero, List.set_cons_succ])
    refine wpAnyH_take (i := 2) (v := ?_) rfl (by kernel_rfl) (by kernel_rfl) (by kernel_rfl) (fun _ _ _ h => h) (Or.inl ⟨by rfl, ?_⟩) hHeld ?_
    rotate_left
    · (intro w0 hSw; (try dsimp only at hSw); (first | (go_simp; done) | (go_simp; with_reducible rfl)))
    (try simp only [List.getElem_toArray, List.getElem_cons_zero, List.getElem_cons_succ, Act.put, List.setIfInBounds_toArray, List.set_cons_zero, List.set_cons_succ])
    refine wpAnyH_take (i := 3) (v := ?_) rfl (by kernel_rfl) (by kernel_rfl) (by kernel_rfl) (fun _ _ _ h => h) (Or.inl ⟨by rfl, ?_⟩) hHeld ?_
    rotate_left
    · (intro w0 hSw; (try dsimp only at hSw); (first | (go_simp; done) | (go_simp; with_reducible rfl)))
    (try simp only [List.getElem_toArray, List.getElem_cons_zero, List.getElem_cons_succ, Act.put, List.setIfInBounds_toArray, List.set_cons_zero, List.set_cons_succ])
    refine wpAnyH_take (i := 5) (v := ?_) rfl (by kernel_rfl) (by kernel_rfl) (by kernel_rfl) (fun _ _ _ h => h) (Or.inl ⟨by rfl, ?_⟩) hHeld ?_
    rotate_left
    · (intro w0 hSw; (try dsimp only at hSw); (first | (go_simp; done) | (go_simp; with_reducible rfl)))
    (try simp only [List.getElem_toArray, List.getElem_cons_zero, List.getElem_cons_succ, Act.put, List.setIfInBounds_toArray, List.set_cons_zero, List.set_cons_succ])
    refine wpAnyH_take (i := 6) (v := ?_) rfl (by kernel_rfl) (by kernel_rfl) (by kernel_rfl) (fun _ _ _ h => h) (Or.inl ⟨by rfl, ?_⟩) hHeld ?_
    rotate_left
    · (intro w0 hSw; (try dsimp only at hSw); (first | (go_simp; done) | (go_simp; with_reducible rfl)))
    (try simp only [List.getElem_toArray, List.getElem_cons_zero, List.getElem_cons_succ, Act.put, List.setIfInBounds_toArray, List.set_cons_zero, List.set_cons_succ])
    refine wpAnyH_take (i := 7) (v := ?_) rfl (by kernel_rfl) (by kernel_rfl) (by kernel_rfl) (fun _ _ _ h => h) (Or.inl ⟨by rfl, ?_⟩) hHeld ?_
    rotate_left
    · (intro w0 hSw; (try dsimp only at hSw); (first | (go_simp; done) | (go_simp; with_reducible rfl)))
    (try simp only [List.getElem_toArray, List.getElem_cons_zero, List.getElem_cons_succ, Act.put, List.setIfInBounds_toArray, List.set_cons_zero, List.set_cons_succ])
    refine wpAnyH_ready (rs := [4]) (by kernel_rfl) (by simp) (AllReadyH.cons rfl (fun K hK => ?_) AllReadyH.nil)
    go_simp
    refine (CL.out _).mono ?_; rintro e w' ⟨rfl, rfl⟩; (try dsimp only)
    refine hK.out _ _ (by assumption) (fun hHeld2 => ?_)
    clear hK K hHeld; have hHeld := hHeld2; clear hHeld2
    (try simp only [List.getElem_toArray, List.getElem_cons_zero, List.getElem_cons_succ, Act.put, List.setIfInBounds_toArray, List.set_cons_zero, List.set_cons_succ])
    refine wpAnyH_take (i := 8) (v := ?_) rfl (by kernel_rfl) (by kernel_rfl) (by kernel_rfl) (fun _ _ _ h => h) (Or.inl ⟨by rfl, ?_⟩) hHeld ?_
    rotate_left
    · (intro w0 hSw; (try dsimp only at hSw); (first | (go_simp; done) | (go_simp; with_reducible rfl)))
    (try simp only [List.getElem_toArray, List.getElem_cons_zero, List.getElem_cons_succ, Act.put, List.setIfInBounds_toArray, List.set_cons_zero, List.set_cons_succ])
    refine wpAnyH_take (i := 9) (v := ?_) rfl (by kernel_rfl) (by kernel_rfl) (by kernel_rfl) (fun _ _ _ h => h) (Or.inl ⟨by rfl, ?_⟩) hHeld ?_
    rotate_left
    · (intro w0 hSw; (try dsimp only at hSw); (first | (go_simp; done) | (go_simp; with_reducible rfl)))
    (try simp only [List.getElem_toArray, List.getElem_cons_zero, List.getElem_cons_succ, Act.put, List.setIfInBounds_toArray, List.set_cons_zero, List.set_cons_succ])
    refine wpAnyH_take (i := 10) (v := ?_) rfl (by kernel_rfl) (by kernel_rfl) (by kernel_rfl) (fun _ _ _ h => h) (Or.inl ⟨by rfl, ?_⟩) hHeld ?_
    rotate_left
    · (intro w0 hSw; (try dsimp only at hSw); (first | (go_simp; done) | (go_simp; with_reducible rfl)))
    (try simp only [List.getElem_toArray, List.getElem_cons_zero, List.getElem_cons_succ, Act.put, List.setIfInBounds_toArray, List.set_cons_zero, List.set_cons_succ])
    refine wpAnyH_done (by kernel_rfl) ?_ _
    clear hHeld
    have hcv := hc3 w3.drew rD
    clear hc1 hc2 hc3 a1 a2 a3 CL
    by_cases ht : trail D30 = []
    · have t0 : (S8 (trail D30)).toList.isEmpty = true := by rw [S8_list, ht]; rfl
      have t1 : (S8 (trail D30)).toList = [] := by rw [S8_list, ht]
      have HE : Hid (S8 (textD false D) = S8 HH) := by show _ = _; rw [HT.out, if_pos ht]; rfl
      clear ht HT X1 X2
      go_wp2_with (go_at_call 38; refine (CR.out _).mono ?_; rintro e w' ⟨rfl, rfl⟩)
      go_ret
      refine ⟨by rw [HE.out]; rfl, ?_⟩
      repeat (first | (with_reducible exact Below.refl _ _) | (with_reducible refine Below.drew ?_) | (refine Below.setCell ?_ (by first | exact Nat.le_refl _ | (simp; done) | (simp; omega) | omega) _) | (refine Below.alloc ?_ (by first | exact Nat.le_refl _ | (simp; done) | (simp; omega) | omega) _) | (refine Below.trans ?_ (Below.mono (by assumption) (by first | exact Nat.le_refl _ | (simp; done) | (simp; omega) | omega))))
    · have t0 : (S8 (trail D30)).toList.isEmpty = false := by rw [S8_list]; simpa using ht
      have t1 : ¬ (S8 (trail D30)).toList = [] := by rw [S8_list]; exact ht
      have HE : Hid (S8 (textD false D) = S8 (HH ++ [46] ++ trail D30)) := by show _ = _; rw [HT.out, if_neg ht]; rfl
      clear ht HT
      have x1 := X1.out
      have x2 := X2.out
      clear X1 X2
      generalize S8 (HH ++ [46] ++ trail D30) = R2 at *
      generalize S8 (HH ++ [46]) = R1 at *
      generalize S8 HH = R0 at *
      go_wp2_with (go_at_call 38; refine (CR.out _).mono ?_; rintro e w' ⟨rfl, rfl⟩)
      go_ret
      refine ⟨by rw [HE.out]; rfl, ?_⟩
      repeat (first | (with_reducible exact Below.refl _ _) | (with_reducible refine Below.drew ?_) | (refine Below.setCell ?_ (by first | exact Nat.le_refl _ | (simp; done) | (simp; omega) | omega) _) | (refine Below.alloc ?_ (by first | exact Nat.le_refl _ | (simp; done) | (simp; omega) | omega) _) | (refine Below.trans ?_ (Below.mono (by assumption) (by first | exact Nat.le_refl _ | (simp; done) | (simp; omega) | omega))))
  · have X1 : Hid (∀ W, (Op.stringOp .add (S8 (45 :: (lead (D.take 29) ++ (D.drop 29).take 1))) ⟨#[46]⟩).run Tryd.prog W = .ok (.string (S8 ((45 :: (lead (D.take 29) ++ (D.drop 29).take 1)) ++ [46]))) W) := s8_add _ [46] (by simp only [List.length_append, List.length_cons, List.length_nil]; omega)
    have X2 : Hid (∀ W, (Op.stringOp .add (S8 ((45 :: (lead (D.take 29) ++ (D.drop 29).take 1)) ++ [46])) (S8 (trail (D.drop 30)))).run Tryd.prog W = .ok (.string (S8 (((45 :: (lead (D.take 29) ++ (D.drop 29).take 1)) ++ [46]) ++ trail (D.drop 30)))) W) := s8_add _ _ (by simp only [List.length_append, List.length_cons, List.length_nil]; omega)
    have HT : Hid (textD true D = if trail (D.drop 30) = [] then [45] ++ (lead (D.take 29) ++ (D.drop 29).take 1) else [45] ++ (lead (D.take 29) ++ (D.drop 29).take 1) ++ [46] ++ trail (D.drop 30)) := rfl
    generalize lead (D.take 29) ++ (D.drop 29).take 1 = HH at *
    generalize D.take 29 = D29 at *
    generalize (D.drop 29).take 1 = D1 at *
    generalize D.drop 30 = D30 at *
    go_upto_region 8 with fail
    refine wp_region_held_drew (S := fun w' => Row w' g 69 (bvs D).toArray) (by kernel_rfl) rD (fun hHeld => ?_)
    refine wpAnyH_take (i := 0) (v := ?_) rfl (by kernel_rfl) (by kernel_rfl) (by kernel_rfl) (fun _ _ _ h => h) (Or.inl ⟨by rfl, ?_⟩) hHeld ?_
    rotate_left
    · (intro w0 hSw; (try dsimp only at hSw); (first | (go_simp; done) | (go_simp; with_reducible rfl)))
    (try simp only [List.getElem_toArray, List.getElem_cons_zero, List.getElem_cons_succ, Act.put, List.setIfInBounds_toArray, List.set_cons_zero, List.set_cons_succ])
    refine wpAnyH_take (i := 1) (v := ?_) rfl (by kernel_rfl) (by kernel_rfl) (by kernel_rfl) (fun _ _ _ h => h) (Or.inl ⟨by rfl, ?_⟩) hHeld ?_
    rotate_left
    · (intro w0 hSw; (try dsimp only at hSw); (first | (go_simp; done) | (go_simp; with_reducible rfl)))
    (try simp only [List.getElem_toArray, List.getElem_cons_zero, List.getElem_cons_succ, Act.put, List.setIfInBounds_toArray, List.set_cons_zero, List.set_cons_succ])
    refine wpAnyH_take (i := 2) (v := ?_) rfl (by kernel_rfl) (by kernel_rfl) (by kernel_rfl) (fun _ _ _ h => h) (Or.inl ⟨by rfl, ?_⟩) hHeld ?_
    rotate_left
    · (intro w0 hSw; (try dsimp only at hSw); (first | (go_simp; done) | (go_simp; with_reducible rfl)))
    (try simp only [List.getElem_toArray, List.getElem_cons_zero, List.getElem_cons_succ, Act.put, List.setIfInBounds_toArray, List.set_cons_zero, List.set_cons_succ])
    refine wpAnyH_take (i := 3) (v := ?_) rfl (by kernel_rfl) (by kernel_rfl) (by kernel_rfl) (fun _ _ _ h => h) (Or.inl ⟨by rfl, ?_⟩) hHeld ?_
    rotate_left
    · (intro w0 hSw; (try dsimp only at hSw); (first | (go_simp; done) | (go_simp; with_reducible rfl)))
    (try simp only [List.getElem_toArray, List.getElem_cons_zero, List.getElem_cons_succ, Act.put, List.setIfInBounds_toArray, List.set_cons_zero, List.set_cons_succ])
    refine wpAnyH_take (i := 5) (v := ?_) rfl (by kernel_rfl) (by kernel_rfl) (by kernel_rfl) (fun _ _ _ h => h) (Or.inl ⟨by rfl, ?_⟩) hHeld ?_
    rotate_left
    · (intro w0 hSw; (try dsimp only at hSw); (first | (go_simp; done) | (go_simp; with_reducible rfl)))
    (try simp only [List.getElem_toArray, List.getElem_cons_zero, List.getElem_cons_succ, Act.put, List.setIfInBounds_toArray, List.set_cons_zero, List.set_cons_succ])
    refine wpAnyH_take (i := 6) (v := ?_) rfl (by kernel_rfl) (by kernel_rfl) (by kernel_rfl) (fun _ _ _ h => h) (Or.inl ⟨by rfl, ?_⟩) hHeld ?_
    rotate_left
    · (intro w0 hSw; (try dsimp only at hSw); (first | (go_simp; done) | (go_simp; with_reducible rfl)))
    (try simp only [List.getElem_toArray, List.getElem_cons_zero, List.getElem_cons_succ, Act.put, List.setIfInBounds_toArray, List.set_cons_zero, List.set_cons_succ])
    refine wpAnyH_take (i := 7) (v := ?_) rfl (by kernel_rfl) (by kernel_rfl) (by kernel_rfl) (fun _ _ _ h => h) (Or.inl ⟨by rfl, ?_⟩) hHeld ?_
    rotate_left
    · (intro w0 hSw; (try dsimp only at hSw); (first | (go_simp; done) | (go_simp; with_reducible rfl)))
    (try simp only [List.getElem_toArray, List.getElem_cons_zero, List.getElem_cons_succ, Act.put, List.setIfInBounds_toArray, List.set_cons_zero, List.set_cons_succ])
    refine wpAnyH_ready (rs := [4]) (by kernel_rfl) (by simp) (AllReadyH.cons rfl (fun K hK => ?_) AllReadyH.nil)
    go_simp
    refine (CL.out _).mono ?_; rintro e w' ⟨rfl, rfl⟩; (try dsimp only)
    refine hK.out _ _ (by assumption) (fun hHeld2 => ?_)
    clear hK K hHeld; have hHeld := hHeld2; clear hHeld2
    (try simp only [List.getElem_toArray, List.getElem_cons_zero, List.getElem_cons_succ, Act.put, List.setIfInBounds_toArray, List.set_cons_zero, List.set_cons_succ])
    refine wpAnyH_take (i := 8) (v := ?_) rfl (by kernel_rfl) (by kernel_rfl) (by kernel_rfl) (fun _ _ _ h => h) (Or.inl ⟨by rfl, ?_⟩) hHeld ?_
    rotate_left
    · (intro w0 hSw; (try dsimp only at hSw); (first | (go_simp; done) | (go_simp; with_reducible rfl)))
    (try simp only [List.getElem_toArray, List.getElem_cons_zero, List.getElem_cons_succ, Act.put, List.setIfInBounds_toArray, List.set_cons_zero, List.set_cons_succ])
    refine wpAnyH_take (i := 9) (v := ?_) rfl (by kernel_rfl) (by kernel_rfl) (by kernel_rfl) (fun _ _ _ h => h) (Or.inl ⟨by rfl, ?_⟩) hHeld ?_
    rotate_left
    · (intro w0 hSw; (try dsimp only at hSw); (first | (go_simp; done) | (go_simp; with_reducible rfl)))
    (try simp only [List.getElem_toArray, List.getElem_cons_zero, List.getElem_cons_succ, Act.put, List.setIfInBounds_toArray, List.set_cons_zero, List.set_cons_succ])
    refine wpAnyH_take (i := 10) (v := ?_) rfl (by kernel_rfl) (by kernel_rfl) (by kernel_rfl) (fun _ _ _ h => h) (Or.inl ⟨by rfl, ?_⟩) hHeld ?_
    rotate_left
    · (intro w0 hSw; (try dsimp only at hSw); (first | (go_simp; done) | (go_simp; with_reducible rfl)))
    (try simp only [List.getElem_toArray, List.getElem_cons_zero, List.getElem_cons_succ, Act.put, List.setIfInBounds_toArray, List.set_cons_zero, List.set_cons_succ])
    refine wpAnyH_done (by kernel_rfl) ?_ _
    clear hHeld
    have hcv := hc3 w3.drew rD
    clear hc1 hc2 hc3 a1 a2 a3 CL
    by_cases ht : trail D30 = []
    · have t0 : (S8 (trail D30)).toList.isEmpty = true := by rw [S8_list, ht]; rfl
      have t1 : (S8 (trail D30)).toList = [] := by rw [S8_list, ht]
      have HE : Hid (S8 (textD true D) = S8 (45 :: HH)) := by show _ = _; rw [HT.out, if_pos ht]; rfl
      clear ht HT X1 X2
      go_wp2_with (go_at_call 38; refine (CR.out _).mono ?_; rintro e w' ⟨rfl, rfl⟩)
      go_ret
      refine ⟨by rw [HE.out]; rfl, ?_⟩
      repeat (first | (with_reducible exact Below.refl _ _) | (with_reducible refine Below.drew ?_) | (refine Below.setCell ?_ (by first | exact Nat.le_refl _ | (simp; done) | (simp; omega) | omega) _) | (refine Below.alloc ?_ (by first | exact Nat.le_refl _ | (simp; done) | (simp; omega) | omega) _) | (refine Below.trans ?_ (Below.mono (by assumption) (by first | exact Nat.le_refl _ | (simp; done) | (simp; omega) | omega))))
    · have t0 : (S8 (trail D30)).toList.isEmpty = false := by rw [S8_list]; simpa using ht
      have t1 : ¬ (S8 (trail D30)).toList = [] := by rw [S8_list]; exact ht
      have HE : Hid (S8 (textD true D) = S8 ((45 :: HH) ++ [46] ++ trail D30)) := by show _ = _; rw [HT.out, if_neg ht]; rfl
      clear ht HT
      have x1 := X1.out
      have x2 := X2.out
      clear X1 X2
      generalize S8 ((45 :: HH) ++ [46] ++ trail D30) = R2 at *
      generalize S8 ((45 :: HH) ++ [46]) = R1 at *
      generalize S8 (45 :: HH) = R0 at *
      go_wp2_with (go_at_call 38; refine (CR.out _).mono ?_; rintro e w' ⟨rfl, rfl⟩)
      go_ret
      refine ⟨by rw [HE.out]; rfl, ?_⟩
      repeat (first | (with_reducible exact Below.refl _ _) | (with_reducible refine Below.drew ?_) | (refine Below.setCell ?_ (by first | exact Nat.le_refl _ | (simp; done) | (simp; omega) | omega) _) | (refine Below.alloc ?_ (by first | exact Nat.le_refl _ | (simp; done) | (simp; omega) | omega) _) | (refine Below.trans ?_ (Below.mono (by assumption) (by first | exact Nat.le_refl _ | (simp; done) | (simp; omega) | omega))))

theorem text_u (b : Bool) (m : Nat) (w : World) :
    Calls Tryd.prog 18 #[MV b m] w fun e w' => e = .returned (.string (S8 (textL b m))) ∧ Below w.heap.size w w' := by
  cases h : goodB b m with
  | false => exact text_bad b m h w
  | true =>
    have hm : m < topN := by unfold goodB at h; simp at h; exact h.1
    have := text_core b m (d36 m) (d36_len m) (fun w => by have := good_m b m w; rwa [h] at this) (spell_u b m hm) w
    unfold textL
    rw [if_pos h]
    exact this
end Go.Proofs.YtfecnogmjfmghaaDoor
