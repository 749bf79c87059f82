/- The walk of NumeralTexts. -/
import Derived.Test.YtfecnogmjfmghaaDoorNumT
namespace Go.Proofs.YtfecnogmjfmghaaDoor
set_option linter.unusedSimpArgs false
set_option linter.unusedVariables false
set_option linter.unnecessarySimpa false
open Go.RowKit

theorem good_zv {b : Bool} {m : Nat} (h : goodB b m = true) : (ZV (fitZ (if b then -(m : Int) else (m : Int))) : Value) = MV b m ∧ fitC ((if b then -(m : Int) else (m : Int)).natAbs) = 0 := by
  have hm : m < topN := by unfold goodB at h; simp at h; exact h.1
  have ha : (if b then -(m : Int) else (m : Int)).natAbs = m := by cases b <;> simp
  constructor
  · unfold fitZ
    rw [ha, if_pos hm]
    unfold ZV
    rw [ha]
    congr 2
    unfold negZ
    cases b
    · simp
    · have : m ≠ 0 := by intro h0; subst h0; simp [goodB] at h
      simp; omega
  · unfold fitC; rw [ha, if_pos hm]
theorem looks_text {b : Bool} {m : Nat} (h : goodB b m = true) : looksB (textL b m) = true := by
  have hb := text_back h (R := []) (by simp [isDgt, hd8]) (by simp [hd8])
  rw [List.append_nil] at hb
  unfold looksB
  rw [hb.2, List.drop_length]
  have : (textL b m).length ≠ 0 := by
    rw [text_eq h]
    have hne := who_ne m
    have : (whoL m).length ≠ 0 := fun h0 => hne (List.eq_nil_of_length_eq_zero h0)
    rw [List.length_append, List.length_append]; omega
  simp [this]

set_option maxRecDepth 100000 in
set_option maxHeartbeats 8000000 in
theorem texts_bad (b : Bool) (m : Nat) (hg : goodB b m = false) (hm : m < 340282366920938463463374607431768211456) (c : Nat) (w : World) :
    Calls Tryd.prog 4 #[MV b m, .int .u8 (c : Int)] w fun e w' => e = .returned (.bool true) ∧ Below w.heap.size w w' := by
  have HA : Hid (∀ w, Calls Tryd.prog 9 #[] w fun e w' => e = .returned (.bool true) ∧ Below w.heap.size w w') := awake2
  have e : textL b m = [] := by unfold textL; rw [hg]; simp
  have HT : Hid (∀ w, Calls Tryd.prog 18 #[MV b m] w fun e w' => e = .returned (.string ⟨#[]⟩) ∧ Below w.heap.size w w') := by
    intro w
    have := text_u b m w
    rwa [e] at this
  have HG : Hid (∀ w, Calls Tryd.prog 39 #[MV b m] w fun e w' => e = .returned (.bool false) ∧ Below w.heap.size w w') := by
    intro w
    have := rgood_any b m hm w
    rwa [hg] at this
  have HR : Hid (∀ w, Calls Tryd.prog 19 #[MV b m] w fun e w' => e = .returned (.string ⟨#[]⟩) ∧ Below w.heap.size w w') := by
    intro w
    go_enter Tryd.func19, Tryd.ntmps19
    go_wp2_with fail; refine (HG.out _).mono ?_; rintro ew1 w1 ⟨rfl, hbw1⟩; obtain ⟨hcw1, hfw1⟩ := bcell hbw1; (try simp only [World.size_drew, World.cell?_drew, World.frozen?_drew] at hcw1 hfw1); have hzw1 := hbw1.size; (try simp at hzw1); have : w.heap.size < w1.heap.size := (by omega); (try dsimp only)
    go_wp2
    go_ret
    refine ⟨rfl, ?_⟩
    repeat (first | (with_reducible exact Below.refl _ _) | (with_reducible refine Below.drew ?_) | (refine Below.setCell ?_ (by first | exact Nat.le_refl _ | (simp; done) | (simp; omega) | omega) _) | (refine Below.alloc ?_ (by first | exact Nat.le_refl _ | (simp; done) | (simp; omega) | omega) _) | (refine Below.trans ?_ (Below.mono (by assumption) (by first | exact Nat.le_refl _ | (simp; done) | (simp; omega) | omega))))
  have HD : Hid (∀ w, Calls Tryd.prog 15 #[MV b m] w fun e w' => e = .returned (.bool false) ∧ Below w.heap.size w w') := by
    intro w
    have := good_m b m w
    rwa [hg] at this
  clear e hg hm HG
  go_enter Tryd.func4, Tryd.ntmps4
  go_wp2_with fail; refine (HA.out _).mono ?_; rintro ew1 w1 ⟨rfl, hbw1⟩; obtain ⟨hcw1, hfw1⟩ := bcell hbw1; (try simp only [World.size_drew, World.cell?_drew, World.frozen?_drew] at hcw1 hfw1); have hzw1 := hbw1.size; (try simp at hzw1); have : w.heap.size < w1.heap.size := (by omega); (try dsimp only)
  go_wp2_with fail
  refine (HT.out _).mono ?_; rintro ew2 w2 ⟨rfl, hbw2⟩; obtain ⟨hcw2, hfw2⟩ := bcell hbw2; (try simp only [World.size_drew, World.cell?_drew, World.frozen?_drew] at hcw2 hfw2); have hzw2 := hbw2.size; (try simp at hzw2); have : w.heap.size < w2.heap.size := (by omega); (try dsimp only)
  go_wp2_with fail
  refine (HR.out _).mono ?_; rintro ew3 w3 ⟨rfl, hbw3⟩; obtain ⟨hcw3, hfw3⟩ := bcell hbw3; (try simp only [World.size_drew, World.cell?_drew, World.frozen?_drew] at hcw3 hfw3); have hzw3 := hbw3.size; (try simp at hzw3); have : w.heap.size < w3.heap.size := (by omega); (try dsimp only)
  go_wp2_with fail
  refine (HD.out _).mono ?_; rintro ew4 w4 ⟨rfl, hbw4⟩; obtain ⟨hcw4, hfw4⟩ := bcell hbw4; (try simp only [World.size_drew, World.cell?_drew, World.frozen?_drew] at hcw4 hfw4); have hzw4 := hbw4.size; (try simp at hzw4); have : w.heap.size < w4.heap.size := (by omega); (try dsimp only)
  go_wp2
  go_ret
  refine ⟨rfl, ?_⟩
  repeat (first | (with_reducible exact Below.refl _ _) | (with_reducible refine Below.drew ?_) | (refine Below.setCell ?_ (by first | exact Nat.le_refl _ | (simp; done) | (simp; omega) | omega) _) | (refine Below.alloc ?_ (by first | exact Nat.le_refl _ | (simp; done) | (simp; omega) | omega) _) | (refine Below.trans ?_ (Below.mono (by assumption) (by first | exact Nat.le_refl _ | (simp; done) | (simp; omega) | omega))))

set_option maxRecDepth 100000 in
set_option maxHeartbeats 8000000 in
theorem texts_good (b : Bool) (m : Nat) (T : List UInt8) (hl : T.length ≤ 38) (c : UInt8)
    (HT : Hid (∀ w, Calls Tryd.prog 18 #[MV b m] w fun e w' => e = .returned (.string (S8 T)) ∧ Below w.heap.size w w'))
    (HR : Hid (∀ w, Calls Tryd.prog 19 #[MV b m] w fun e w' => e = .returned (.string (S8 T)) ∧ Below w.heap.size w w'))
    (HD : Hid (∀ w, Calls Tryd.prog 15 #[MV b m] w fun e w' => e = .returned (.bool true) ∧ Below w.heap.size w w'))
    (HP : Hid (∀ W u, BS W u T → Calls Tryd.prog 10 #[u] W fun e w' => e = .returned (.tuple #[MV b m, .int .i64 ((T.length : Nat) : Int), .nilIface]) ∧ Below W.heap.size W w'))
    (HK : Hid (∀ W u, BS W u T → Calls Tryd.prog 13 #[u] W fun e w' => e = .returned (.bool true) ∧ Below W.heap.size W w'))
    (HQ : Hid (¬ isDgt c.toNat → c.toNat ≠ 46 → ∀ W u, BS W u (T ++ [c, 49]) → Calls Tryd.prog 10 #[u] W fun e w' => e = .returned (.tuple #[MV b m, .int .i64 ((T.length : Nat) : Int), .nilIface]) ∧ Below W.heap.size W w')) (w : World) :
    Calls Tryd.prog 4 #[MV b m, .int .u8 ((c.toNat : Nat) : Int)] w fun e w' => e = .returned (.bool true) ∧ Below w.heap.size w w' := by
  have HA : Hid (∀ w, Calls Tryd.prog 9 #[] w fun e w' => e = .returned (.bool true) ∧ Below w.heap.size w w') := awake2
  have eN : ∀ w, (binOp .neq 26 (MV b m) (MV b m)).run Tryd.prog w = .ok (.bool false) w := fun w => by rw [neq_mm]; unfold eqM; simp
  have eA : ∀ w, (binOp .eql 26 (MV b m) (MV b m)).run Tryd.prog w = .ok (.bool true) w := fun w => by rw [eql_mm]; unfold eqM; simp
  have hln := s8_len T
  have kc := run_cv T
  have HOC := Lib.hid (fun W => Own8.cv W T (by unfold maxLen; omega))
  have HC := Lib.hid (fun W => cv_below W T)
  have HCS := Lib.hid (fun W => cv_size W T)
  go_enter Tryd.func4, Tryd.ntmps4
  go_wp2_with fail; refine (HA.out _).mono ?_; rintro ew1 w1 ⟨rfl, hbw1⟩; obtain ⟨hcw1, hfw1⟩ := bcell hbw1; (try simp only [World.size_drew, World.cell?_drew, World.frozen?_drew] at hcw1 hfw1); have hzw1 := hbw1.size; (try simp at hzw1); have : w.heap.size < w1.heap.size := (by omega); (try dsimp only)
  go_wp2_with fail
  refine (HT.out _).mono ?_; rintro ew2 w2 ⟨rfl, hbw2⟩; obtain ⟨hcw2, hfw2⟩ := bcell hbw2; (try simp only [World.size_drew, World.cell?_drew, World.frozen?_drew] at hcw2 hfw2); have hzw2 := hbw2.size; (try simp at hzw2); have : w.heap.size < w2.heap.size := (by omega); (try dsimp only)
  go_wp2_with fail
  refine (HR.out _).mono ?_; rintro ew3 w3 ⟨rfl, hbw3⟩; obtain ⟨hcw3, hfw3⟩ := bcell hbw3; (try simp only [World.size_drew, World.cell?_drew, World.frozen?_drew] at hcw3 hfw3); have hzw3 := hbw3.size; (try simp at hzw3); have : w.heap.size < w3.heap.size := (by omega); (try dsimp only)
  go_wp2_with fail
  refine (HD.out _).mono ?_; rintro ew4 w4 ⟨rfl, hbw4⟩; obtain ⟨hcw4, hfw4⟩ := bcell hbw4; (try simp only [World.size_drew, World.cell?_drew, World.frozen?_drew] at hcw4 hfw4); have hzw4 := hbw4.size; (try simp at hzw4); have : w.heap.size < w4.heap.size := (by omega); (try dsimp only)
  have r0 : Row w4 w.heap.size 26 #[.bool b, .int .u64 (hiN m : Int), .int .u64 (loN m : Int)] := ((((Row.new w _ _).on hbw1).on hbw2).on hbw3).on hbw4
  have hB4 : Below w.heap.size w w4 := by repeat (first | (with_reducible exact Below.refl _ _) | (with_reducible refine Below.drew ?_) | (refine Below.setCell ?_ (by first | exact Nat.le_refl _ | (simp; done) | (simp; omega) | omega) _) | (refine Below.alloc ?_ (by first | exact Nat.le_refl _ | (simp; done) | (simp; omega) | omega) _) | (refine Below.trans ?_ (Below.mono (by assumption) (by first | exact Nat.le_refl _ | (simp; done) | (simp; omega) | omega))))
  clear hcw1 hfw1 hcw2 hfw2 hcw3 hfw3 hcw4 hfw4 hbw1 hbw2 hbw3 hbw4
  go_wp2_with fail
  refine (HP.out _ _ (HOC.out w4).bs).mono ?_
  rintro e w5 ⟨rfl, hb5⟩
  have r5 := (r0.on (HC.out w4)).on hb5
  have hB5 : Below w.heap.size w w5 := (hB4.trans ((HC.out w4).mono hB4.size)).trans (hb5.mono (by rw [HCS.out]; have := hB4.size; omega))
  have HR5 := Lib.hid r5
  have HB5 := Lib.hid hB5
  have hz5 : w.heap.size < w5.heap.size := r5.lt
  have q0 := r5.cell 0
  have q1 := r5.cell 1
  have q2 := r5.cell 2
  simp only [List.getElem?_toArray, List.getElem?_cons_zero, List.getElem?_cons_succ] at q0 q1 q2
  clear r0 hB4 hb5 r5 hB5
  go_upto_region 9 with fail
  have r6 : Row (w5.alloc (.cells #[.bool b, .int .u64 (hiN m : Int), .int .u64 (loN m : Int)] 26)) w5.heap.size 26 #[.bool b, .int .u64 (hiN m : Int), .int .u64 (loN m : Int)] := Row.new w5 _ _
  have hB6 : Hid (Below w.heap.size w (w5.alloc (.cells #[.bool b, .int .u64 (hiN m : Int), .int .u64 (loN m : Int)] 26))) := HB5.out.alloc HB5.out.size _
  have r06 := HR5.out.alloc (.cells #[.bool b, .int .u64 (hiN m : Int), .int .u64 (loN m : Int)] 26)
  generalize hW6 : w5.alloc (.cells #[.bool b, .int .u64 (hiN m : Int), .int .u64 (loN m : Int)] 26) = W6 at *
  have hs6 : W6.heap.size = w5.heap.size + 1 := by rw [← hW6]; simp
  clear hW6
  have Hs6 := Lib.hid hs6
  have HR6 := Lib.hid r06
  have HS6 := Lib.hid r6
  have d0 := r6.cell 0
  have d1 := r6.cell 1
  have d2 := r6.cell 2
  have e0 := r06.cell 0
  have e1 := r06.cell 1
  have e2 := r06.cell 2
  simp only [List.getElem?_toArray, List.getElem?_cons_zero, List.getElem?_cons_succ] at d0 d1 d2 e0 e1 e2
  clear hs6 r6 r06 q0 q1 q2
  go_wp2_with fail
  refine (HK.out _ _ (HOC.out W6).bs).mono ?_
  rintro e w7 ⟨rfl, hb7⟩
  have HR7 : Hid (Row w7 w.heap.size 26 #[.bool b, .int .u64 (hiN m : Int), .int .u64 (loN m : Int)]) := (HR6.out.on (HC.out W6)).on hb7
  have HB7 : Hid (Below w.heap.size w w7) := (hB6.out.trans ((HC.out W6).mono hB6.out.size)).trans (hb7.mono (by rw [HCS.out]; have := hB6.out.size; omega))
  have hw7 : w.heap.size < w7.heap.size := HR7.out.lt
  have hne7 : ¬ w7.heap.size = w.heap.size := by omega
  clear hb7 d0 d1 d2 e0 e1 e2 HR6 HS6 hB6 Hs6
  by_cases h1 : 48 ≤ c.toNat
  · have t1 : decide ((48 : Int) ≤ ((c.toNat : Nat) : Int)) = true := decide_eq_true (by omega)
    by_cases h2 : c.toNat ≤ 57
    · have t2 : decide (((c.toNat : Nat) : Int) ≤ 57) = true := decide_eq_true (by omega)
      go_wp2
      go_ret
      exact ⟨rfl, HB7.out⟩
    · have t2 : decide (((c.toNat : Nat) : Int) ≤ 57) = false := decide_eq_false (by omega)
      have t3 : (((c.toNat : Nat) : Int) == 46) = false := by rw [beq_eq_false_iff_ne]; omega
      have hnd : ¬ isDgt c.toNat := by unfold isDgt; omega
      have h46 : c.toNat ≠ 46 := by omega
      have OB : Hid (Own8 ((cvW w7 T).alloc (.cells #[.int .u8 ((c.toNat : Nat) : Int), .int .u8 49] 5)) w7.heap.size (.slice (some ⟨w7.heap.size, 0, none⟩) T.length (cvCap w7 T)) T) := (HOC.out w7).on ((Below.refl _ _).alloc (Nat.le_refl _) _)
      have US : Hid (BS ((cvW w7 T).alloc (.cells #[.int .u8 ((c.toNat : Nat) : Int), .int .u8 49] 5)) (.slice (some ⟨(cvW w7 T).heap.size, 0, none⟩) 2 2) [c, 49]) := (Own8.new (cvW w7 T) [c, 49] 5 (by simp [maxLen])).bs
      have MX : Hid (T.length + ([c, 49] : List UInt8).length ≤ 1000000) := by show _ ≤ _; simp only [List.length_cons, List.length_nil]; omega
      have LX : Hid (w7.heap.size ≤ ((cvW w7 T).alloc (.cells #[.int .u8 ((c.toNat : Nat) : Int), .int .u8 49] 5)).heap.size) := by have := HCS.out w7; show _ ≤ _; simp; omega
      have B7 : Hid (Below w7.heap.size w7 ((cvW w7 T).alloc (.cells #[.int .u8 ((c.toNat : Nat) : Int), .int .u8 49] 5))) := (HC.out w7).alloc (by rw [HCS.out]; omega) _
      go_wp2_with (refine wpList_app8k _ rfl (.tmp 63) (.tmp 65) rfl w7.heap.size _ _ T [c, 49] rfl rfl OB.out US.out MX.out LX.out ?_; intro vx w8 ox hb8 hk8)
      have rA := HR7.out.on B7.out
      have r8 : Row w8 w.heap.size 26 #[.bool b, .int .u64 (hiN m : Int), .int .u64 (loN m : Int)] := (hk8 w.heap.size rA.lt (fun e => hne7 (Option.some.inj e))).trans rA
      have hB8 : Below w.heap.size w w8 := (HB7.out.trans (B7.out.mono HB7.out.size)).trans (hb8.mono HB7.out.size)
      clear OB US MX LX B7 hb8 hk8 rA
      refine (HQ.out hnd h46 _ _ ox.bs).mono ?_
      rintro e w9 ⟨rfl, hb9⟩
      have r9 := r8.on hb9
      have HB9 : Hid (Below w.heap.size w w9) := hB8.trans (hb9.mono hB8.size)
      have hz9 : w.heap.size < w9.heap.size := r9.lt
      have p0 := r9.cell 0
      have p1 := r9.cell 1
      have p2 := r9.cell 2
      simp only [List.getElem?_toArray, List.getElem?_cons_zero, List.getElem?_cons_succ] at p0 p1 p2
      have HB10 : Hid (Below w.heap.size w (w9.alloc (.cells #[.bool b, .int .u64 (hiN m : Int), .int .u64 (loN m : Int)] 26))) := HB9.out.alloc HB9.out.size _
      clear r8 hB8 hb9 r9 ox HB9
      go_wp2
      go_ret
      exact ⟨rfl, HB10.out⟩
  · have t1 : decide ((48 : Int) ≤ ((c.toNat : Nat) : Int)) = false := decide_eq_false (by omega)
    by_cases h3 : c.toNat = 46
    · have t3 : (((c.toNat : Nat) : Int) == 46) = true := by rw [h3]; rfl
      go_wp2
      go_ret
      exact ⟨rfl, HB7.out⟩
    · have t3 : (((c.toNat : Nat) : Int) == 46) = false := by rw [beq_eq_false_iff_ne]; omega
      have hnd : ¬ isDgt c.toNat := by unfold isDgt; omega
      have h46 : c.toNat ≠ 46 := h3
      have OB : Hid (Own8 ((cvW w7 T).alloc (.cells #[.int .u8 ((c.toNat : Nat) : Int), .int .u8 49] 5)) w7.heap.size (.slice (some ⟨w7.heap.size, 0, none⟩) T.length (cvCap w7 T)) T) := (HOC.out w7).on ((Below.refl _ _).alloc (Nat.le_refl _) _)
      have US : Hid (BS ((cvW w7 T).alloc (.cells #[.int .u8 ((c.toNat : Nat) : Int), .int .u8 49] 5)) (.slice (some ⟨(cvW w7 T).heap.size, 0, none⟩) 2 2) [c, 49]) := (Own8.new (cvW w7 T) [c, 49] 5 (by simp [maxLen])).bs
      have MX : Hid (T.length + ([c, 49] : List UInt8).length ≤ 1000000) := by show _ ≤ _; simp only [List.length_cons, List.length_nil]; omega
      have LX : Hid (w7.heap.size ≤ ((cvW w7 T).alloc (.cells #[.int .u8 ((c.toNat : Nat) : Int), .int .u8 49] 5)).heap.size) := by have := HCS.out w7; show _ ≤ _; simp; omega
      have B7 : Hid (Below w7.heap.size w7 ((cvW w7 T).alloc (.cells #[.int .u8 ((c.toNat : Nat) : Int), .int .u8 49] 5))) := (HC.out w7).alloc (by rw [HCS.out]; omega) _
      go_wp2_with (refine wpList_app8k _ rfl (.tmp 63) (.tmp 65) rfl w7.heap.size _ _ T [c, 49] rfl rfl OB.out US.out MX.out LX.out ?_; intro vx w8 ox hb8 hk8)
      have rA := HR7.out.on B7.out
      have r8 : Row w8 w.heap.size 26 #[.bool b, .int .u64 (hiN m : Int), .int .u64 (loN m : Int)] := (hk8 w.heap.size rA.lt (fun e => hne7 (Option.some.inj e))).trans rA
      have hB8 : Below w.heap.size w w8 := (HB7.out.trans (B7.out.mono HB7.out.size)).trans (hb8.mono HB7.out.size)
      clear OB US MX LX B7 hb8 hk8 rA
      refine (HQ.out hnd h46 _ _ ox.bs).mono ?_
      rintro e w9 ⟨rfl, hb9⟩
      have r9 := r8.on hb9
      have HB9 : Hid (Below w.heap.size w w9) := hB8.trans (hb9.mono hB8.size)
      have hz9 : w.heap.size < w9.heap.size := r9.lt
      have p0 := r9.cell 0
      have p1 := r9.cell 1
      have p2 := r9.cell 2
      simp only [List.getElem?_toArray, List.getElem?_cons_zero, List.getElem?_cons_succ] at p0 p1 p2
      have HB10 : Hid (Below w.heap.size w (w9.alloc (.cells #[.bool b, .int .u64 (hiN m : Int), .int .u64 (loN m : Int)] 26))) := HB9.out.alloc HB9.out.size _
      clear r8 hB8 hb9 r9 ox HB9
      go_wp2
      go_ret
      exact ⟨rfl, HB10.out⟩

theorem texts_w (b : Bool) (m : Nat) (hm : m < 340282366920938463463374607431768211456) (n : Nat) (hn : n < 256) (w : World) :
    Calls Tryd.prog 4 #[MV b m, .int .u8 (n : Int)] w fun e w' => e = .returned (.bool true) ∧ Below w.heap.size w w' := by
  cases hg : goodB b m with
  | false => exact texts_bad b m hg hm n w
  | true =>
    obtain ⟨c, rfl⟩ : ∃ c : UInt8, n = c.toNat := ⟨UInt8.ofNat n, by rw [UInt8.toNat_ofNat']; omega⟩
    have hl := text_len b m
    have hz := good_zv hg
    refine texts_good b m (textL b m) hl c (fun w => text_u b m w) (fun w => rtext_core b m hg hm w) (fun w => by have := good_m b m w; rwa [hg] at this) ?_ ?_ ?_ w
    · intro W u hu
      have hb := text_back hg (R := []) (by simp [isDgt, hd8]) (by simp [hd8])
      rw [List.append_nil] at hb
      have := prefix_u hu (by omega)
      rw [hb.1, hb.2, hz.1, hz.2] at this
      exact this
    · intro W u hu
      have := looks_u hu (by omega)
      rwa [looks_text hg] at this
    · intro hnd h46 W u hu
      have hb := text_back hg (R := [c, 49]) hnd h46
      have := prefix_u hu (by rw [List.length_append]; simp; omega)
      rw [hb.1, hb.2, hz.1, hz.2] at this
      exact this
end Go.Proofs.YtfecnogmjfmghaaDoor
