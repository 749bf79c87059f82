/- The walk of NumeralLooks. -/
import Derived.Test.YtfecnogmjfmghaaDoorNumR
namespace Go.Proofs.YtfecnogmjfmghaaDoor
set_option linter.unusedSimpArgs false
set_option linter.unusedVariables false
set_option linter.unnecessarySimpa false
open Go.RowKit

theorem blank2_u (c : UInt8) (w : World) : Calls Tryd.prog 20 #[bv c] w fun e w' => e = .returned (.bool (blkU c)) ∧ w = w' := by
  obtain ⟨b, hb⟩ : ∃ b, b = blkU c := ⟨_, rfl⟩
  rw [← hb]
  unfold blkU at hb
  have HB := Lib.hid hb; clear hb
  have hn := c.toNat_lt
  unfold bv
  generalize c.toNat = n at *
  by_cases h1 : n = 32
  · obtain rfl : b = true := by rw [HB.out]; simp [h1]
    have t1 : ((n : Int) == 32) = true := by rw [h1]; rfl
    clear h1
    go_enter Tryd.func20, Tryd.ntmps20
    go_wp2
    go_ret
    exact ⟨rfl, rfl⟩
  · have t1 : ((n : Int) == 32) = false := by rw [beq_eq_false_iff_ne]; omega
    by_cases h2 : 9 ≤ n
    · have t2 : decide ((9 : Int) ≤ (n : Int)) = true := by simp; omega
      by_cases h3 : n ≤ 13
      · obtain rfl : b = true := by rw [HB.out]; simp [h2, h3]
        have t3 : decide ((n : Int) ≤ 13) = true := by simp; omega
        clear h1
        go_enter Tryd.func20, Tryd.ntmps20
        go_wp2
        go_ret
        exact ⟨rfl, rfl⟩
      · obtain rfl : b = false := by rw [HB.out]; simp [h1, h3]
        have t3 : decide ((n : Int) ≤ 13) = false := by simp; omega
        clear h1
        go_enter Tryd.func20, Tryd.ntmps20
        go_wp2
        go_ret
        exact ⟨rfl, rfl⟩
    · obtain rfl : b = false := by rw [HB.out]; simp [h1, h2]
      have t2 : decide ((9 : Int) ≤ (n : Int)) = false := by simp; omega
      clear h1
      go_enter Tryd.func20, Tryd.ntmps20
      go_wp2
      go_ret
      exact ⟨rfl, rfl⟩

theorem x_none (l : List UInt8) : numN (120 :: l) = 0 ∧ looksB (120 :: l) = false := by
  have h : shp (120 :: l) = Shp.z := by
    have e : nxt 0 120 = 5 := by decide
    have r : runS 0 Shp.z (120 :: l) = Shp.z := by rw [runS, e, if_pos rfl]
    unfold shp; rw [r]; rfl
  have h0 := numN_none h
  exact ⟨h0, by unfold looksB; rw [h0]; simp⟩
theorem looks_x (l : List UInt8) : looksB (l ++ [120]) = false := by
  obtain ⟨B, S, W, P, F, R, h⟩ := parts_ex (l ++ [120])
  unfold looksB
  by_cases hn : W.length + F.length = 0
  · rw [numN_none (shp_none h hn)]; simp
  · rw [h.numN hn]
    have hl := h.l
    have hd : (l ++ [120]).drop (B.length + S.length + W.length + P.length + F.length) = R := by
      rw [hl, show B ++ (S ++ (W ++ (P ++ (F ++ R)))) = (B ++ S ++ W ++ P ++ F) ++ R by simp [List.append_assoc]]
      exact List.drop_left' (by simp [Nat.add_assoc])
    rw [hd]
    have h120 : (120 : UInt8).toNat = 120 := rfl
    rcases List.eq_nil_or_concat R with rfl | ⟨r, c, rfl⟩
    · exfalso
      have hm : (120 : UInt8) ∈ B ++ (S ++ (W ++ (P ++ (F ++ [])))) := by rw [← hl]; simp
      simp only [List.mem_append, List.not_mem_nil, or_false] at hm
      rcases hm with hm | hm | hm | hm | hm
      · have := h.b _ hm; unfold isBlk at this; omega
      · rcases h.s with ⟨rfl, _⟩ | ⟨c, hc, rfl⟩
        · cases hm
        · simp only [List.mem_singleton] at hm; rw [← hm] at hc; omega
      · have := h.w _ hm; unfold isDgt at this; omega
      · rcases h.p with ⟨rfl, _⟩ | ⟨⟨c, hc, rfl⟩, _⟩
        · cases hm
        · simp only [List.mem_singleton] at hm; rw [← hm] at hc; omega
      · have := h.f _ hm; unfold isDgt at this; omega
    · have e : l ++ [120] = (B ++ (S ++ (W ++ (P ++ (F ++ r))))) ++ [c] := by rw [hl]; simp [List.append_assoc]
      have hc : c = 120 := by
        have := congrArg List.getLast? e
        simp at this
        exact this.symm
      subst hc
      rw [List.concat_eq_append, List.all_append]
      have : blkU 120 = false := by decide
      simp [this]

set_option maxRecDepth 100000 in
set_option maxHeartbeats 8000000 in
theorem looks2_w {v : Value} {l : List UInt8} {w : World} (h : BS w v l) :
    Calls Tryd.prog 5 #[v] w fun e w' => e = .returned (.bool true) ∧ Below w.heap.size w w' := by
  have HA : Hid (∀ w, Calls Tryd.prog 9 #[] w fun e w' => e = .returned (.bool true) ∧ Below w.heap.size w w') := awake2
  have H := Lib.hid h
  obtain ⟨p, c, rfl, hlc, hcm, hU⟩ := h
  by_cases hl : l.length ≤ 200
  · have t0 : decide ((200 : Int) < (l.length : Int)) = false := by simp; omega
    have HP : Hid (∀ W, Below w.heap.size w W → Calls Tryd.prog 10 #[.slice p l.length c] W fun e w' => e = .returned (.tuple #[ZV (fitZ (numZ l)), .int .i64 ((numN l : Nat) : Int), errV (fitC (numZ l).natAbs)]) ∧ Below W.heap.size W w') := fun W hW => prefix_u (H.out.on hW) (by omega)
    have HK : Hid (∀ W, Below w.heap.size w W → Calls Tryd.prog 13 #[.slice p l.length c] W fun e w' => e = .returned (.bool (looksB l)) ∧ Below W.heap.size W w') := fun W hW => looks_u (H.out.on hW) (by omega)
    have hN := numN_le l
    have n0 : decide (((numN l : Nat) : Int) < 0) = false := decide_eq_false (by omega)
    have n1 : decide (l.length < numN l) = false := decide_eq_false (by omega)
    have HB : Hid (looksB l = (decide (numN l ≠ 0) && (l.drop (numN l)).all blkU)) := rfl
    have HD : Hid (∀ k, k < l.length → l.drop k = l.getD k 0 :: l.drop (k + 1)) := fun k hk => drop_u8 l hk
    have HU := Lib.hid hU
    have PX : Hid (∀ W u, BS W u (120 :: l) → Calls Tryd.prog 10 #[u] W fun e w' => e = .returned (.tuple #[ZV (fitZ (numZ (120 :: l))), .int .i64 0, errV (fitC (numZ (120 :: l)).natAbs)]) ∧ Below W.heap.size W w') := by
      intro W u hu
      have := prefix_u hu (by simp; omega)
      rw [(x_none l).1] at this
      exact this
    have KX : Hid (∀ W u, BS W u (120 :: l) → Calls Tryd.prog 13 #[u] W fun e w' => e = .returned (.bool false) ∧ Below W.heap.size W w') := by
      intro W u hu
      have := looks_u hu (by simp; omega)
      rw [(x_none l).2] at this
      exact this
    have KY : Hid (∀ W u, BS W u (l ++ [120]) → Calls Tryd.prog 13 #[u] W fun e w' => e = .returned (.bool false) ∧ Below W.heap.size W w') := by
      intro W u hu
      have := looks_u hu (by simp; omega)
      rw [looks_x l] at this
      exact this
    clear hU
    generalize fitZ (numZ (120 :: l)) = Z1 at *
    generalize fitC (numZ (120 :: l)).natAbs = c1 at *
    generalize fitZ (numZ l) = Z at *
    generalize fitC (numZ l).natAbs = cc at *
    generalize numN l = N at *
    have hN' : (N : Int) ≤ (l.length : Int) := by omega
    cases hlk : looksB l
    · rw [hlk] at HK
      clear hlk HB HD
      go_enter Tryd.func5, Tryd.ntmps5
      go_wp2_with fail; refine (HA.out _).mono ?_; rintro ew1 w1 ⟨rfl, hbw1⟩; obtain ⟨hcw1, hfw1⟩ := bcell hbw1; (try simp only [World.size_drew, World.cell?_drew, World.frozen?_drew] at hcw1 hfw1); have hzw1 := hbw1.size; (try simp at hzw1); (try dsimp only)
      go_wp2_with fail
      refine (HP.out _ (by repeat (first | (with_reducible exact Below.refl _ _) | (with_reducible refine Below.drew ?_) | (refine Below.setCell ?_ (by first | exact Nat.le_refl _ | (simp; done) | (simp; omega) | omega) _) | (refine Below.alloc ?_ (by first | exact Nat.le_refl _ | (simp; done) | (simp; omega) | omega) _) | (refine Below.trans ?_ (Below.mono (by assumption) (by first | exact Nat.le_refl _ | (simp; done) | (simp; omega) | omega)))))).mono ?_; rintro ew2 w2 ⟨rfl, hbw2⟩; obtain ⟨hcw2, hfw2⟩ := bcell hbw2; (try simp only [World.size_drew, World.cell?_drew, World.frozen?_drew] at hcw2 hfw2); have hzw2 := hbw2.size; (try simp at hzw2); (try dsimp only)
      go_wp2_with fail
      refine (HK.out _ (by repeat (first | (with_reducible exact Below.refl _ _) | (with_reducible refine Below.drew ?_) | (refine Below.setCell ?_ (by first | exact Nat.le_refl _ | (simp; done) | (simp; omega) | omega) _) | (refine Below.alloc ?_ (by first | exact Nat.le_refl _ | (simp; done) | (simp; omega) | omega) _) | (refine Below.trans ?_ (Below.mono (by assumption) (by first | exact Nat.le_refl _ | (simp; done) | (simp; omega) | omega)))))).mono ?_; rintro ew3 w3 ⟨rfl, hbw3⟩; obtain ⟨hcw3, hfw3⟩ := bcell hbw3; (try simp only [World.size_drew, World.cell?_drew, World.frozen?_drew] at hcw3 hfw3); have hzw3 := hbw3.size; (try simp at hzw3); (try dsimp only)
      have hB3 : Below w.heap.size w w3 := by repeat (first | (with_reducible exact Below.refl _ _) | (with_reducible refine Below.drew ?_) | (refine Below.setCell ?_ (by first | exact Nat.le_refl _ | (simp; done) | (simp; omega) | omega) _) | (refine Below.alloc ?_ (by first | exact Nat.le_refl _ | (simp; done) | (simp; omega) | omega) _) | (refine Below.trans ?_ (Below.mono (by assumption) (by first | exact Nat.le_refl _ | (simp; done) | (simp; omega) | omega))))
      clear hcw1 hfw1 hcw2 hfw2 hcw3 hfw3 hbw1 hbw2 hbw3
      go_upto_region 16 with fail
      have HB3 := Lib.hid hB3
      have O1 : Hid (Own8 (w3.alloc (.cells #[.int .u8 120] 5)) w3.heap.size (.slice (some ⟨w3.heap.size, 0, none⟩) 1 1) [120]) := Own8.new w3 [120] 5 (by decide)
      have U1 : Hid (BS (w3.alloc (.cells #[.int .u8 120] 5)) (.slice p l.length c) l) := H.out.on (by repeat (first | (with_reducible exact Below.refl _ _) | (with_reducible refine Below.drew ?_) | (refine Below.setCell ?_ (by first | exact Nat.le_refl _ | (simp; done) | (simp; omega) | omega) _) | (refine Below.alloc ?_ (by first | exact Nat.le_refl _ | (simp; done) | (simp; omega) | omega) _) | (refine Below.trans ?_ (Below.mono (by assumption) (by first | exact Nat.le_refl _ | (simp; done) | (simp; omega) | omega)))))
      have M1 : Hid (([120] : List UInt8).length + l.length ≤ 1000000) := by show _ ≤ _; simp only [List.length_cons, List.length_nil]; omega
      have L1 : Hid (w3.heap.size ≤ (w3.alloc (.cells #[.int .u8 120] 5)).heap.size) := by show _ ≤ _; simp
      go_upto_region 17 with (refine wpList_app8 _ rfl (.tmp 48) (.tmp 49) rfl w3.heap.size _ _ [120] l rfl rfl O1.out U1.out M1.out L1.out ?_; intro vx w4 ox hbx)
      have B4 : Hid (Below w.heap.size w w4) := HB3.out.trans (((Below.refl _ w3).alloc (Nat.le_refl _) _).trans hbx |>.mono HB3.out.size)
      have X4 : Hid (Own8 w4 w3.heap.size vx (120 :: l)) := ox
      clear ox hbx O1 U1 M1 L1
      have O2 : Hid (Own8 (w4.alloc (.cells #[] 5)) w4.heap.size (.slice (some ⟨w4.heap.size, 0, none⟩) 0 0) []) := Own8.new w4 [] 5 (by decide)
      have U2 : Hid (BS (w4.alloc (.cells #[] 5)) (.slice p l.length c) l) := H.out.on (B4.out.alloc B4.out.size _)
      have M2 : Hid (([] : List UInt8).length + l.length ≤ 1000000) := by show _ ≤ _; simp only [List.length_nil]; omega
      have L2 : Hid (w4.heap.size ≤ (w4.alloc (.cells #[] 5)).heap.size) := by show _ ≤ _; simp
      have M3 : Hid (([] ++ l : List UInt8).length + ([120] : List UInt8).length ≤ 1000000) := by show _ ≤ _; simp only [List.nil_append, List.length_cons, List.length_nil]; omega
      go_upto_region 18 with (first | (refine wpList_app8 _ rfl (.tmp 51) (.tmp 52) rfl w4.heap.size _ _ [] l rfl rfl O2.out U2.out M2.out L2.out ?_; intro v5 w5 o5 hb5) | (refine wpList_app8 _ rfl (.tmp 53) (.tmp 54) rfl w4.heap.size _ _ ([] ++ l) [120] rfl rfl (o5.on ((Below.refl _ w5).alloc (Nat.le_refl _) (.cells #[.int .u8 120] 5))) (Own8.new w5 [120] 5 (by decide)).bs M3.out (Nat.le_trans L2.out (Nat.le_trans hb5.size (by simp))) ?_; intro vy w6 oy hb6))
      have B46 : Below w4.heap.size w4 w6 := (((Below.refl _ w4).alloc (Nat.le_refl _) _).trans hb5).trans ((((Below.refl _ w5).alloc (Nat.le_refl _) _).mono (Nat.le_trans L2.out hb5.size)).trans hb6)
      have X6 : BS w6 vx (120 :: l) := X4.out.bs.on B46
      have Y6 : BS w6 vy (l ++ [120]) := oy.bs
      have hB6 : Below w.heap.size w w6 := B4.out.trans (B46.mono B4.out.size)
      have X6' := Lib.hid X6
      have Y6' := Lib.hid Y6
      clear X6 Y6 oy o5 hb5 hb6 O2 U2 M2 L2 M3 B46 X4 B4 HB3
      go_wp2_with fail
      refine (PX.out _ _ (X6'.out.on (by repeat (first | (with_reducible exact Below.refl _ _) | (with_reducible refine Below.drew ?_) | (refine Below.setCell ?_ (by first | exact Nat.le_refl _ | (simp; done) | (simp; omega) | omega) _) | (refine Below.alloc ?_ (by first | exact Nat.le_refl _ | (simp; done) | (simp; omega) | omega) _) | (refine Below.trans ?_ (Below.mono (by assumption) (by first | exact Nat.le_refl _ | (simp; done) | (simp; omega) | omega))))))).mono ?_; rintro ew7 w7 ⟨rfl, hbw7⟩; obtain ⟨hcw7, hfw7⟩ := bcell hbw7; (try simp only [World.size_drew, World.cell?_drew, World.frozen?_drew] at hcw7 hfw7); have hzw7 := hbw7.size; (try simp at hzw7); (try dsimp only)
      have hB7 : Below w6.heap.size w6 w7 := by repeat (first | (with_reducible exact Below.refl _ _) | (with_reducible refine Below.drew ?_) | (refine Below.setCell ?_ (by first | exact Nat.le_refl _ | (simp; done) | (simp; omega) | omega) _) | (refine Below.alloc ?_ (by first | exact Nat.le_refl _ | (simp; done) | (simp; omega) | omega) _) | (refine Below.trans ?_ (Below.mono (by assumption) (by first | exact Nat.le_refl _ | (simp; done) | (simp; omega) | omega))))
      clear hcw7 hfw7
      go_wp2_with fail
      refine (KX.out _ _ (X6'.out.on (by repeat (first | (with_reducible exact Below.refl _ _) | (with_reducible refine Below.drew ?_) | (refine Below.setCell ?_ (by first | exact Nat.le_refl _ | (simp; done) | (simp; omega) | omega) _) | (refine Below.alloc ?_ (by first | exact Nat.le_refl _ | (simp; done) | (simp; omega) | omega) _) | (refine Below.trans ?_ (Below.mono (by assumption) (by first | exact Nat.le_refl _ | (simp; done) | (simp; omega) | omega))))))).mono ?_; rintro ew8 w8 ⟨rfl, hbw8⟩; obtain ⟨hcw8, hfw8⟩ := bcell hbw8; (try simp only [World.size_drew, World.cell?_drew, World.frozen?_drew] at hcw8 hfw8); have hzw8 := hbw8.size; (try simp at hzw8); (try dsimp only)
      have hB8 : Below w6.heap.size w6 w8 := by repeat (first | (with_reducible exact Below.refl _ _) | (with_reducible refine Below.drew ?_) | (refine Below.setCell ?_ (by first | exact Nat.le_refl _ | (simp; done) | (simp; omega) | omega) _) | (refine Below.alloc ?_ (by first | exact Nat.le_refl _ | (simp; done) | (simp; omega) | omega) _) | (refine Below.trans ?_ (Below.mono (by assumption) (by first | exact Nat.le_refl _ | (simp; done) | (simp; omega) | omega))))
      clear hcw8 hfw8
      go_wp2_with fail
      refine (KY.out _ _ (Y6'.out.on (by repeat (first | (with_reducible exact Below.refl _ _) | (with_reducible refine Below.drew ?_) | (refine Below.setCell ?_ (by first | exact Nat.le_refl _ | (simp; done) | (simp; omega) | omega) _) | (refine Below.alloc ?_ (by first | exact Nat.le_refl _ | (simp; done) | (simp; omega) | omega) _) | (refine Below.trans ?_ (Below.mono (by assumption) (by first | exact Nat.le_refl _ | (simp; done) | (simp; omega) | omega))))))).mono ?_; rintro ew9 w9 ⟨rfl, hbw9⟩; obtain ⟨hcw9, hfw9⟩ := bcell hbw9; (try simp only [World.size_drew, World.cell?_drew, World.frozen?_drew] at hcw9 hfw9); have hzw9 := hbw9.size; (try simp at hzw9); (try dsimp only)
      go_wp2
      go_ret
      refine ⟨rfl, ?_⟩
      have hB68 : Below w.heap.size w w8 := hB6.trans (hB8.mono hB6.size)
      exact hB68.trans (hbw9.mono hB68.size)
    · rw [hlk] at HK
      have hb : N ≠ 0 ∧ (l.drop N).all blkU = true := by
        have := HB.out
        rw [hlk] at this
        have h2 := this.symm
        simp only [Bool.and_eq_true, decide_eq_true_eq] at h2
        exact h2
      have nz : ((N : Int) == 0) = false := by rw [beq_eq_false_iff_ne]; have := hb.1; omega
      have HL2 : Hid ((l.drop N).all blkU = true) := hb.2
      clear hlk HB hb
      go_enter Tryd.func5, Tryd.ntmps5
      go_wp2_with fail; refine (HA.out _).mono ?_; rintro ew1 w1 ⟨rfl, hbw1⟩; obtain ⟨hcw1, hfw1⟩ := bcell hbw1; (try simp only [World.size_drew, World.cell?_drew, World.frozen?_drew] at hcw1 hfw1); have hzw1 := hbw1.size; (try simp at hzw1); (try dsimp only)
      go_wp2_with fail
      refine (HP.out _ (by repeat (first | (with_reducible exact Below.refl _ _) | (with_reducible refine Below.drew ?_) | (refine Below.setCell ?_ (by first | exact Nat.le_refl _ | (simp; done) | (simp; omega) | omega) _) | (refine Below.alloc ?_ (by first | exact Nat.le_refl _ | (simp; done) | (simp; omega) | omega) _) | (refine Below.trans ?_ (Below.mono (by assumption) (by first | exact Nat.le_refl _ | (simp; done) | (simp; omega) | omega)))))).mono ?_; rintro ew2 w2 ⟨rfl, hbw2⟩; obtain ⟨hcw2, hfw2⟩ := bcell hbw2; (try simp only [World.size_drew, World.cell?_drew, World.frozen?_drew] at hcw2 hfw2); have hzw2 := hbw2.size; (try simp at hzw2); (try dsimp only)
      go_wp2_with fail
      refine (HK.out _ (by repeat (first | (with_reducible exact Below.refl _ _) | (with_reducible refine Below.drew ?_) | (refine Below.setCell ?_ (by first | exact Nat.le_refl _ | (simp; done) | (simp; omega) | omega) _) | (refine Below.alloc ?_ (by first | exact Nat.le_refl _ | (simp; done) | (simp; omega) | omega) _) | (refine Below.trans ?_ (Below.mono (by assumption) (by first | exact Nat.le_refl _ | (simp; done) | (simp; omega) | omega)))))).mono ?_; rintro ew3 w3 ⟨rfl, hbw3⟩; obtain ⟨hcw3, hfw3⟩ := bcell hbw3; (try simp only [World.size_drew, World.cell?_drew, World.frozen?_drew] at hcw3 hfw3); have hzw3 := hbw3.size; (try simp at hzw3); (try dsimp only)
      have hB3 : Below w.heap.size w w3 := by repeat (first | (with_reducible exact Below.refl _ _) | (with_reducible refine Below.drew ?_) | (refine Below.setCell ?_ (by first | exact Nat.le_refl _ | (simp; done) | (simp; omega) | omega) _) | (refine Below.alloc ?_ (by first | exact Nat.le_refl _ | (simp; done) | (simp; omega) | omega) _) | (refine Below.trans ?_ (Below.mono (by assumption) (by first | exact Nat.le_refl _ | (simp; done) | (simp; omega) | omega))))
      clear hcw1 hfw1 hcw2 hfw2 hcw3 hfw3 hbw1 hbw2 hbw3
      go_wp2
      go_loop [6] (fun i => ∃ k : Nat, N ≤ k ∧ k ≤ l.length ∧ i = .int .i64 (k : Int) ∧ Hid ((l.drop k).all blkU = true)) (fun i => l.length - (intOf i).toNat)
      case atStart => exact ⟨N, Nat.le_refl _, hN, rfl, HL2.out⟩
      case round =>
        obtain ⟨k, hNk, hk, rfl, hr⟩ := hrel
        by_cases hlt : k < l.length
        · obtain ⟨b, off, rfl, hbb, hcs⟩ := HU.out (by rintro rfl; simp at hlt)
          have hcell : w3.cell? ⟨b, off + k, none⟩ = some (bv (l.getD k 0)) := (hB3.cell (p := ⟨b, off + k, none⟩) hbb).trans (hcs k hlt)
          have hlt' : (k : Int) < (l.length : Int) := by omega
          have hge : (0 : Int) ≤ (k : Int) := by omega
          have hd := hr.out
          rw [HD.out k hlt, List.all_cons, Bool.and_eq_true] at hd
          have HC : Hid (∀ w, Calls Tryd.prog 20 #[bv (l.getD k 0)] w fun e w' => e = .returned (.bool true) ∧ w = w') := by
            intro w
            have := blank2_u (l.getD k 0) w
            rwa [hd.1] at this
          have hr' : Hid ((l.drop (k + 1)).all blkU = true) := hd.2
          clear hcs hd hr
          generalize l.getD k 0 = x at *
          go_wp2_with (go_at_call 20; refine (HC.out _).mono ?_; rintro e w' ⟨rfl, rfl⟩)
          go_round
          case rel => exact ⟨k + 1, by omega, by omega, by go_num, hr'⟩
          case measure => simp [intOf]; omega
        · have hkl : k = l.length := by omega
          subst hkl
          clear hr HL2 HD
          have HB3 := Lib.hid hB3
          have O1 : Hid (Own8 (w3.alloc (.cells #[.int .u8 120] 5)) w3.heap.size (.slice (some ⟨w3.heap.size, 0, none⟩) 1 1) [120]) := Own8.new w3 [120] 5 (by decide)
          have U1 : Hid (BS (w3.alloc (.cells #[.int .u8 120] 5)) (.slice p l.length c) l) := H.out.on (by repeat (first | (with_reducible exact Below.refl _ _) | (with_reducible refine Below.drew ?_) | (refine Below.setCell ?_ (by first | exact Nat.le_refl _ | (simp; done) | (simp; omega) | omega) _) | (refine Below.alloc ?_ (by first | exact Nat.le_refl _ | (simp; done) | (simp; omega) | omega) _) | (refine Below.trans ?_ (Below.mono (by assumption) (by first | exact Nat.le_refl _ | (simp; done) | (simp; omega) | omega)))))
          have M1 : Hid (([120] : List UInt8).length + l.length ≤ 1000000) := by show _ ≤ _; simp only [List.length_cons, List.length_nil]; omega
          have L1 : Hid (w3.heap.size ≤ (w3.alloc (.cells #[.int .u8 120] 5)).heap.size) := by show _ ≤ _; simp
          go_upto_region 17 with (refine wpList_app8 _ rfl (.tmp 48) (.tmp 49) rfl w3.heap.size _ _ [120] l rfl rfl O1.out U1.out M1.out L1.out ?_; intro vx w4 ox hbx)
          have B4 : Hid (Below w.heap.size w w4) := HB3.out.trans (((Below.refl _ w3).alloc (Nat.le_refl _) _).trans hbx |>.mono HB3.out.size)
          have X4 : Hid (Own8 w4 w3.heap.size vx (120 :: l)) := ox
          clear ox hbx O1 U1 M1 L1
          have O2 : Hid (Own8 (w4.alloc (.cells #[] 5)) w4.heap.size (.slice (some ⟨w4.heap.size, 0, none⟩) 0 0) []) := Own8.new w4 [] 5 (by decide)
          have U2 : Hid (BS (w4.alloc (.cells #[] 5)) (.slice p l.length c) l) := H.out.on (B4.out.alloc B4.out.size _)
          have M2 : Hid (([] : List UInt8).length + l.length ≤ 1000000) := by show _ ≤ _; simp only [List.length_nil]; omega
          have L2 : Hid (w4.heap.size ≤ (w4.alloc (.cells #[] 5)).heap.size) := by show _ ≤ _; simp
          have M3 : Hid (([] ++ l : List UInt8).length + ([120] : List UInt8).length ≤ 1000000) := by show _ ≤ _; simp only [List.nil_append, List.length_cons, List.length_nil]; omega
          go_upto_region 18 with (first | (refine wpList_app8 _ rfl (.tmp 51) (.tmp 52) rfl w4.heap.size _ _ [] l rfl rfl O2.out U2.out M2.out L2.out ?_; intro v5 w5 o5 hb5) | (refine wpList_app8 _ rfl (.tmp 53) (.tmp 54) rfl w4.heap.size _ _ ([] ++ l) [120] rfl rfl (o5.on ((Below.refl _ w5).alloc (Nat.le_refl _) (.cells #[.int .u8 120] 5))) (Own8.new w5 [120] 5 (by decide)).bs M3.out (Nat.le_trans L2.out (Nat.le_trans hb5.size (by simp))) ?_; intro vy w6 oy hb6))
          have B46 : Below w4.heap.size w4 w6 := (((Below.refl _ w4).alloc (Nat.le_refl _) _).trans hb5).trans ((((Below.refl _ w5).alloc (Nat.le_refl _) _).mono (Nat.le_trans L2.out hb5.size)).trans hb6)
          have X6 : BS w6 vx (120 :: l) := X4.out.bs.on B46
          have Y6 : BS w6 vy (l ++ [120]) := oy.bs
          have hB6 : Below w.heap.size w w6 := B4.out.trans (B46.mono B4.out.size)
          have X6' := Lib.hid X6
          have Y6' := Lib.hid Y6
          clear X6 Y6 oy o5 hb5 hb6 O2 U2 M2 L2 M3 B46 X4 B4 HB3
          go_wp2_with fail
          refine (PX.out _ _ (X6'.out.on (by repeat (first | (with_reducible exact Below.refl _ _) | (with_reducible refine Below.drew ?_) | (refine Below.setCell ?_ (by first | exact Nat.le_refl _ | (simp; done) | (simp; omega) | omega) _) | (refine Below.alloc ?_ (by first | exact Nat.le_refl _ | (simp; done) | (simp; omega) | omega) _) | (refine Below.trans ?_ (Below.mono (by assumption) (by first | exact Nat.le_refl _ | (simp; done) | (simp; omega) | omega))))))).mono ?_; rintro ew7 w7 ⟨rfl, hbw7⟩; obtain ⟨hcw7, hfw7⟩ := bcell hbw7; (try simp only [World.size_drew, World.cell?_drew, World.frozen?_drew] at hcw7 hfw7); have hzw7 := hbw7.size; (try simp at hzw7); (try dsimp only)
          have hB7 : Below w6.heap.size w6 w7 := by repeat (first | (with_reducible exact Below.refl _ _) | (with_reducible refine Below.drew ?_) | (refine Below.setCell ?_ (by first | exact Nat.le_refl _ | (simp; done) | (simp; omega) | omega) _) | (refine Below.alloc ?_ (by first | exact Nat.le_refl _ | (simp; done) | (simp; omega) | omega) _) | (refine Below.trans ?_ (Below.mono (by assumption) (by first | exact Nat.le_refl _ | (simp; done) | (simp; omega) | omega))))
          clear hcw7 hfw7
          go_wp2_with fail
          refine (KX.out _ _ (X6'.out.on (by repeat (first | (with_reducible exact Below.refl _ _) | (with_reducible refine Below.drew ?_) | (refine Below.setCell ?_ (by first | exact Nat.le_refl _ | (simp; done) | (simp; omega) | omega) _) | (refine Below.alloc ?_ (by first | exact Nat.le_refl _ | (simp; done) | (simp; omega) | omega) _) | (refine Below.trans ?_ (Below.mono (by assumption) (by first | exact Nat.le_refl _ | (simp; done) | (simp; omega) | omega))))))).mono ?_; rintro ew8 w8 ⟨rfl, hbw8⟩; obtain ⟨hcw8, hfw8⟩ := bcell hbw8; (try simp only [World.size_drew, World.cell?_drew, World.frozen?_drew] at hcw8 hfw8); have hzw8 := hbw8.size; (try simp at hzw8); (try dsimp only)
          have hB8 : Below w6.heap.size w6 w8 := by repeat (first | (with_reducible exact Below.refl _ _) | (with_reducible refine Below.drew ?_) | (refine Below.setCell ?_ (by first | exact Nat.le_refl _ | (simp; done) | (simp; omega) | omega) _) | (refine Below.alloc ?_ (by first | exact Nat.le_refl _ | (simp; done) | (simp; omega) | omega) _) | (refine Below.trans ?_ (Below.mono (by assumption) (by first | exact Nat.le_refl _ | (simp; done) | (simp; omega) | omega))))
          clear hcw8 hfw8
          go_wp2_with fail
          refine (KY.out _ _ (Y6'.out.on (by repeat (first | (with_reducible exact Below.refl _ _) | (with_reducible refine Below.drew ?_) | (refine Below.setCell ?_ (by first | exact Nat.le_refl _ | (simp; done) | (simp; omega) | omega) _) | (refine Below.alloc ?_ (by first | exact Nat.le_refl _ | (simp; done) | (simp; omega) | omega) _) | (refine Below.trans ?_ (Below.mono (by assumption) (by first | exact Nat.le_refl _ | (simp; done) | (simp; omega) | omega))))))).mono ?_; rintro ew9 w9 ⟨rfl, hbw9⟩; obtain ⟨hcw9, hfw9⟩ := bcell hbw9; (try simp only [World.size_drew, World.cell?_drew, World.frozen?_drew] at hcw9 hfw9); have hzw9 := hbw9.size; (try simp at hzw9); (try dsimp only)
          go_wp2
          go_ret
          refine ⟨rfl, ?_⟩
          have hB68 : Below w.heap.size w w8 := hB6.trans (hB8.mono hB6.size)
          exact hB68.trans (hbw9.mono hB68.size)
  · have t0 : decide ((200 : Int) < (l.length : Int)) = true := by simp; omega
    clear hU
    go_enter Tryd.func5, Tryd.ntmps5
    go_wp2_with fail; refine (HA.out _).mono ?_; rintro ew1 w1 ⟨rfl, hbw1⟩; obtain ⟨hcw1, hfw1⟩ := bcell hbw1; (try simp only [World.size_drew, World.cell?_drew, World.frozen?_drew] at hcw1 hfw1); have hzw1 := hbw1.size; (try simp at hzw1); (try dsimp only)
    go_wp2
    go_ret
    refine ⟨rfl, ?_⟩
    repeat (first | (with_reducible exact Below.refl _ _) | (with_reducible refine Below.drew ?_) | (refine Below.setCell ?_ (by first | exact Nat.le_refl _ | (simp; done) | (simp; omega) | omega) _) | (refine Below.alloc ?_ (by first | exact Nat.le_refl _ | (simp; done) | (simp; omega) | omega) _) | (refine Below.trans ?_ (Below.mono (by assumption) (by first | exact Nat.le_refl _ | (simp; done) | (simp; omega) | omega))))
end Go.Proofs.YtfecnogmjfmghaaDoor
