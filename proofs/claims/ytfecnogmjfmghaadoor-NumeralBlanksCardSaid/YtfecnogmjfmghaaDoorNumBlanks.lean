/- The walk of NumeralBlanks. -/
import Derived.Test.YtfecnogmjfmghaaDoorNumR
import Derived.Test.YtfecnogmjfmghaaDoorDecR
import Derived.Deep.OwnRows
namespace Go.Proofs.YtfecnogmjfmghaaDoor
set_option linter.unusedSimpArgs false
set_option linter.unusedVariables false
set_option linter.unnecessarySimpa false
open Go.RowKit

def spc (n : Nat) : List UInt8 := List.replicate n 32
theorem spc_len (n : Nat) : (spc n).length = n := by unfold spc; simp
theorem spc_blk (n : Nat) : allB (spc n) := by
  intro c hc; unfold spc at hc; rw [List.mem_replicate] at hc; rw [hc.2]; unfold isBlk; decide
theorem spc_parts {n : Nat} {l B S W P F R : List UInt8} (h : Parts l B S W P F R) : Parts (spc n ++ l) (spc n ++ B) S W P F R :=
  ⟨h.toTail, fun c hc => (List.mem_append.1 hc).elim (spc_blk n c) (h.b c), h.s, by rw [h.l, List.append_assoc]⟩
theorem spc_back (n : Nat) (l : List UInt8) : numZ (spc n ++ l) = numZ l ∧ (numN l = 0 ∧ numN (spc n ++ l) = 0 ∨ 0 < numN l ∧ numN (spc n ++ l) = numN l + n) := by
  obtain ⟨B, S, W, P, F, R, h⟩ := parts_ex l
  have h' := spc_parts (n := n) h
  by_cases hn : W.length + F.length = 0
  · have z := shp_none h hn
    have z' := shp_none h' hn
    exact ⟨by rw [numZ_none z, numZ_none z'], Or.inl ⟨numN_none z, numN_none z'⟩⟩
  · rw [h.numZ hn, h'.numZ hn, h.numN hn, h'.numN hn]
    refine ⟨rfl, Or.inr ⟨by omega, by rw [List.length_append, spc_len]; omega⟩⟩
theorem hd8_app (l : List UInt8) (c : UInt8) : hd8 (l ++ [c]) = if l = [] then c.toNat else hd8 l := by cases l <;> rfl
theorem parts_32 {l B S W P F R : List UInt8} (h : Parts l B S W P F R) : ∃ B' R', Parts (l ++ [32]) B' S W P F R' ∧ (W.length + F.length ≠ 0 → B' = B ∧ R' = R ++ [32]) := by
  have h32 : (32 : UInt8).toNat = 32 := rfl
  by_cases hz : S = [] ∧ W ++ (P ++ (F ++ R)) = []
  · obtain ⟨rfl, h0⟩ := hz
    rw [List.append_eq_nil_iff, List.append_eq_nil_iff, List.append_eq_nil_iff] at h0
    obtain ⟨rfl, rfl, rfl, rfl⟩ := h0
    refine ⟨B ++ [32], [], ⟨⟨h.w, h.f, Or.inl ⟨rfl, rfl, by simp [isDgt, hd8], by simp [hd8]⟩⟩, fun c hc => ?_, Or.inl ⟨rfl, by simp [isBlk, hd8], by simp [hd8], by simp [hd8]⟩, by rw [h.l]; simp⟩, fun hn => absurd rfl hn⟩
    rcases List.mem_append.1 hc with hc | hc
    · exact h.b c hc
    · simp only [List.mem_singleton] at hc; rw [hc]; unfold isBlk; decide
  · refine ⟨B, R ++ [32], ⟨⟨h.w, h.f, ?_⟩, h.b, ?_, by rw [h.l]; simp⟩, fun _ => ⟨rfl, rfl⟩⟩
    · rcases h.p with ⟨h1, h2, h3, h4⟩ | ⟨h1, h3⟩
      · left
        refine ⟨h1, h2, ?_, ?_⟩
        · rw [hd8_app]; split
          · unfold isDgt; omega
          · exact h3
        · rw [hd8_app]; split
          · omega
          · exact h4
      · right
        refine ⟨h1, ?_⟩
        rw [hd8_app]; split
        · unfold isDgt; omega
        · exact h3
    · rcases h.s with ⟨h1, h2⟩ | h1
      · left
        have e : W ++ (P ++ (F ++ (R ++ [32]))) = (W ++ (P ++ (F ++ R))) ++ [32] := by simp
        rw [e, hd8_app, if_neg (fun h0 => hz ⟨h1, h0⟩)]
        exact ⟨h1, h2⟩
      · exact Or.inr h1
theorem looks_32 (l : List UInt8) : looksB (l ++ [32]) = looksB l := by
  obtain ⟨B, S, W, P, F, R, h⟩ := parts_ex l
  obtain ⟨B', R', h', hc⟩ := parts_32 h
  unfold looksB
  by_cases hn : W.length + F.length = 0
  · rw [numN_none (shp_none h hn), numN_none (shp_none h' hn)]; simp
  · obtain ⟨rfl, rfl⟩ := hc hn
    have d1 : l.drop (B'.length + S.length + W.length + P.length + F.length) = R := by
      rw [h.l, show B' ++ (S ++ (W ++ (P ++ (F ++ R)))) = (B' ++ S ++ W ++ P ++ F) ++ R by simp [List.append_assoc]]
      exact List.drop_left' (by simp [Nat.add_assoc])
    have d2 : (l ++ [32]).drop (B'.length + S.length + W.length + P.length + F.length) = R ++ [32] := by
      rw [h'.l, show B' ++ (S ++ (W ++ (P ++ (F ++ (R ++ [32]))))) = (B' ++ S ++ W ++ P ++ F) ++ (R ++ [32]) by simp [List.append_assoc]]
      exact List.drop_left' (by simp [Nat.add_assoc])
    rw [h.numN hn, h'.numN hn, d1, d2, List.all_append]
    have : blkU 32 = true := by decide
    simp [this]
theorem made8 (n : Nat) : madeCells #[Value.int .u8 0] n = (bvs (nul n)).toArray := by
  apply Array.toList_inj.1
  rw [toList_madeCells_one]
  unfold bvs nul
  rw [List.map_replicate]
  rfl
def filS (n k : Nat) : List UInt8 := spc k ++ nul (n - k)
theorem filS_len {n k : Nat} (h : k ≤ n) : (filS n k).length = n := by unfold filS nul; rw [List.length_append, spc_len, List.length_replicate]; omega
theorem filS_set {n k : Nat} (h : k < n) : (bvs (filS n k)).toArray.setIfInBounds k (.int .u8 32) = (bvs (filS n (k + 1))).toArray := by
  have e1 : filS n k = spc k ++ (0 :: nul (n - (k + 1))) := by
    unfold filS nul; rw [show n - k = (n - (k + 1)) + 1 by omega, List.replicate_succ]
  have e2 : filS n (k + 1) = spc k ++ (32 :: nul (n - (k + 1))) := by
    unfold filS spc; rw [List.replicate_succ']; simp
  rw [e1, e2, List.setIfInBounds_toArray]
  congr 1
  unfold bvs
  rw [List.map_append, List.map_append, List.set_append_right _ _ (by rw [List.length_map, spc_len]; exact Nat.le_refl _), List.length_map, spc_len, Nat.sub_self]
  rfl
theorem filS_n (n : Nat) : filS n n = spc n := by unfold filS nul; simp
theorem Own8.row {w : World} {g : Nat} {T : TypeId} {l : List UInt8} {B : Nat} (r : Row w g T (bvs l).toArray) (hB : B ≤ g) (hl : l.length ≤ maxLen) : Own8 w B (.slice (some ⟨g, 0, none⟩) l.length l.length) l :=
  ⟨g, l.length, rfl, hB, r.lt, Nat.le_refl _, hl, fun j hj => (r.cell j).trans (by rw [List.getElem?_toArray]; exact bvs_get hj), fun j h1 h2 => by omega⟩
/-- The walk. -/
theorem fit_le (z : Nat) : fitC z ≤ 25 := by unfold fitC; split <;> omega
set_option maxRecDepth 100000 in
set_option maxHeartbeats 8000000 in
theorem blanks2_core {v : Value} {l : List UInt8} {w : World} (h : BS w v l) (n : Nat) (hn : n ≤ 50) (hl : l.length ≤ 200) (Z : Int) (cc : Nat) (hcc : cc ≤ 25) (N M : Nat) (lk : Bool) (hNM : N = 0 ∧ M = 0 ∨ 0 < N ∧ M = N + n) (hN : N ≤ 200)
    (HP : Hid (∀ W u, BS W u l → Calls Tryd.prog 10 #[u] W fun e w' => e = .returned (.tuple #[ZV Z, .int .i64 (N : Int), errV cc]) ∧ Below W.heap.size W w'))
    (HQ : Hid (∀ W u, BS W u (spc n ++ l) → Calls Tryd.prog 10 #[u] W fun e w' => e = .returned (.tuple #[ZV Z, .int .i64 (M : Int), errV cc]) ∧ Below W.heap.size W w'))
    (HK : Hid (∀ W u, BS W u l → Calls Tryd.prog 13 #[u] W fun e w' => e = .returned (.bool lk) ∧ Below W.heap.size W w'))
    (HJ : Hid (∀ W u, BS W u (l ++ [32]) → Calls Tryd.prog 13 #[u] W fun e w' => e = .returned (.bool lk) ∧ Below W.heap.size W w')) :
    Calls Tryd.prog 6 #[v, .int .u8 (n : Int)] w fun e w' => e = .returned (.bool true) ∧ Below w.heap.size w w' := by
  have HA : Hid (∀ w, Calls Tryd.prog 9 #[] w fun e w' => e = .returned (.bool true) ∧ Below w.heap.size w w') := awake2
  have HC : Hid (∀ w, Calls Tryd.prog 12 #[errV cc] w fun e w' => e = .returned (.int .i64 (cc : Int)) ∧ w = w') := code_v cc hcc
  have H := Lib.hid h
  obtain ⟨p, c, rfl, hlc, hcm, hU⟩ := h
  have t0 : decide ((200 : Int) < (l.length : Int)) = false := decide_eq_false (by omega)
  have t1 : decide ((50 : Int) < (n : Int)) = false := decide_eq_false (by omega)
  have hmk := run_make_row' (P := Tryd.prog) 22 5 (.int .u8 0) 1 Tryd.underlying22 u8_info rfl .i64 .i64 n (by omega) (by omega)
  rw [made8] at hmk
  have hn0 : (0 : Int) ≤ (n : Int) := by omega
  have hn1 : (n : Int) ≤ 50 := by omega
  have eA : ∀ w, (binOp .eql 26 (ZV Z) (ZV Z)).run Tryd.prog w = .ok (.bool true) w := fun w => by rw [eql_mm]; unfold eqM; simp
  clear hU hcc
  go_enter Tryd.func6, Tryd.ntmps6
  go_wp2_with fail; refine (HA.out _).mono ?_; rintro ew1 w1 ⟨rfl, hbw1⟩; obtain ⟨hcw1, hfw1⟩ := bcell hbw1; (try simp only [World.size_drew, World.cell?_drew, World.frozen?_drew] at hcw1 hfw1); have hzw1 := hbw1.size; (try simp at hzw1); (try dsimp only)
  clear hcw1 hfw1
  go_upto_region 6 with fail
  have hB0 : Below w.heap.size w (w1.alloc (.cells (bvs (nul n)).toArray 5)) := by repeat (first | (with_reducible exact Below.refl _ _) | (with_reducible refine Below.drew ?_) | (refine Below.setCell ?_ (by first | exact Nat.le_refl _ | (simp; done) | (simp; omega) | omega) _) | (refine Below.alloc ?_ (by first | exact Nat.le_refl _ | (simp; done) | (simp; omega) | omega) _) | (refine Below.trans ?_ (Below.mono (by assumption) (by first | exact Nat.le_refl _ | (simp; done) | (simp; omega) | omega))))
  have r0 : Row (w1.alloc (.cells (bvs (nul n)).toArray 5)) w1.heap.size 5 (bvs (filS n 0)).toArray := by
    have := Row.new w1 5 (bvs (nul n)).toArray
    rwa [show nul n = filS n 0 by unfold filS; rfl] at this ⊢
  have hw1 : w.heap.size ≤ w1.heap.size := hbw1.size
  generalize w1.alloc (.cells (bvs (nul n)).toArray 5) = w2 at *
  have HR0 := Lib.hid r0
  have HB0 := Lib.hid hB0
  generalize w1.heap.size = g at *
  clear hmk r0 hB0 t0 t1 hbw1
  go_wp2
  go_loopw [6] (fun i wr => ∃ k : Nat, k ≤ n ∧ i = .int .i64 (k : Int) ∧ Row wr g 5 (bvs (filS n k)).toArray ∧ Below w.heap.size w wr) (fun i _ => n - (intOf i).toNat)
  case atStart => exact ⟨0, by omega, rfl, HR0.out, HB0.out⟩
  case round =>
    obtain ⟨k, hk, rfl, r1, hB⟩ := hrel
    by_cases hlt : k < n
    · have hlt' : (k : Int) < (n : Int) := by omega
      have hge : (0 : Int) ≤ (k : Int) := by omega
      have d0 : wr.cell? ⟨g, k, none⟩ = some (bv ((filS n k).getD k 0)) := (r1.cell k).trans (by rw [List.getElem?_toArray]; exact bvs_get (by rw [filS_len hk]; exact hlt))
      have f0 := r1.froz k
      have R1 := Lib.hid (r1.set k (.int .u8 32))
      have B1 : Hid (Below w.heap.size w (wr.setCell ⟨g, k, none⟩ (.int .u8 32))) := hB.setCell hw1 _
      clear r1 hB
      unfold bv at d0
      generalize ((filS n k).getD k 0).toNat = y at *
      go_wp2
      go_roundw
      case rel => exact ⟨k + 1, by omega, by go_num, by have := R1.out; rwa [filS_set hlt] at this, B1.out⟩
      case measure => simp [intOf]; omega
    · obtain rfl : k = n := by omega
      rw [filS_n] at r1
      have HX : Hid (Own8 wr w.heap.size (.slice (some ⟨g, 0, none⟩) k k) (spc k)) := by
        have := Own8.row r1 hw1 (by rw [spc_len]; unfold maxLen; omega)
        rwa [spc_len] at this
      have HB := Lib.hid hB
      have hg0 : g < wr.heap.size := r1.lt
      clear r1 hB HR0 HB0
      go_wp2_with fail
      refine (HP.out _ _ (H.out.on HB.out)).mono ?_
      rintro e w3 ⟨rfl, hb3⟩
      have HB3 : Hid (Below w.heap.size w w3) := HB.out.trans (hb3.mono HB.out.size)
      have HX3 : Hid (Own8 w3 w.heap.size (.slice (some ⟨g, 0, none⟩) k k) (spc k)) := HX.out.on hb3
      have hgz : g < w3.heap.size := Nat.lt_of_lt_of_le hg0 hb3.size
      clear hb3 HX HB hg0
      go_upto_region 11 with fail
      have HB4 : Hid (Below w.heap.size w (w3.alloc (.cells #[.bool (negZ Z), .int .u64 (hiN Z.natAbs : Int), .int .u64 (loN Z.natAbs : Int)] 26))) := HB3.out.alloc HB3.out.size _
      have HX4 : Hid (Own8 (w3.alloc (.cells #[.bool (negZ Z), .int .u64 (hiN Z.natAbs : Int), .int .u64 (loN Z.natAbs : Int)] 26)) w.heap.size (.slice (some ⟨g, 0, none⟩) k k) (spc k)) := HX3.out.on ((Below.refl _ _).alloc (Nat.le_refl _) _)
      have rz : Row (w3.alloc (.cells #[.bool (negZ Z), .int .u64 (hiN Z.natAbs : Int), .int .u64 (loN Z.natAbs : Int)] 26)) w3.heap.size 26 #[.bool (negZ Z), .int .u64 (hiN Z.natAbs : Int), .int .u64 (loN Z.natAbs : Int)] := Row.new w3 _ _
      have HZ4 := Lib.hid rz
      have HU4 : Hid (BS (w3.alloc (.cells #[.bool (negZ Z), .int .u64 (hiN Z.natAbs : Int), .int .u64 (loN Z.natAbs : Int)] 26)) (.slice p l.length c) l) := H.out.on HB4.out
      have M4 : Hid ((spc k).length + l.length ≤ 1000000) := by show _ ≤ _; rw [spc_len]; omega
      have hgz' : Hid (g ≠ w3.heap.size) := by show _ ≠ _; omega
      generalize w3.heap.size = gz at *
      have hgz4 : gz < (w3.alloc (.cells #[.bool (negZ Z), .int .u64 (hiN Z.natAbs : Int), .int .u64 (loN Z.natAbs : Int)] 26)).heap.size := HZ4.out.lt
      clear rz HB3 HX3
      generalize w3.alloc (.cells #[.bool (negZ Z), .int .u64 (hiN Z.natAbs : Int), .int .u64 (loN Z.natAbs : Int)] 26) = w4 at *
      have L4 : Hid (w.heap.size ≤ w4.heap.size) := HB4.out.size
      go_wp2_with (refine wpList_app8k _ rfl (.tmp 41) (.tmp 42) rfl w.heap.size _ _ (spc k) l rfl rfl HX4.out HU4.out M4.out L4.out ?_; intro vx w5 ox5 hb5 hk5)
      refine (HQ.out _ _ ox5.bs).mono ?_
      rintro e w6 ⟨rfl, hb6⟩
      have rz5 : Row w5 gz 26 #[.bool (negZ Z), .int .u64 (hiN Z.natAbs : Int), .int .u64 (loN Z.natAbs : Int)] := (hk5 gz hgz4 (by simp only [Value.ownBlock]; exact fun e => hgz'.out (Option.some.inj e))).trans HZ4.out
      have rz6 := rz5.on hb6
      have HB6 : Hid (Below w.heap.size w w6) := (HB4.out.trans hb5).trans (hb6.mono (Nat.le_trans L4.out hb5.size))
      have hgz6 : gz < w6.heap.size := rz6.lt
      have z0 := rz6.cell 0
      have z1 := rz6.cell 1
      have z2 := rz6.cell 2
      simp only [List.getElem?_toArray, List.getElem?_cons_zero, List.getElem?_cons_succ] at z0 z1 z2
      clear hb5 hb6 hk5 ox5 rz5 HX4 HU4 M4 HZ4 L4
      go_upto_region 12 with fail
      have hz7 : w6.heap.size < (w6.alloc (.cells #[.bool (negZ Z), .int .u64 (hiN Z.natAbs : Int), .int .u64 (loN Z.natAbs : Int)] 26)).heap.size := by simp
      have HB7 : Hid (Below w.heap.size w (w6.alloc (.cells #[.bool (negZ Z), .int .u64 (hiN Z.natAbs : Int), .int .u64 (loN Z.natAbs : Int)] 26))) := HB6.out.alloc HB6.out.size _
      have HU7 : Hid (BS (w6.alloc (.cells #[.bool (negZ Z), .int .u64 (hiN Z.natAbs : Int), .int .u64 (loN Z.natAbs : Int)] 26)) (.slice p l.length c) l) := H.out.on HB7.out
      have hL : Hid (l.length ≤ 200) := hl
      rcases hNM with ⟨rfl, rfl⟩ | ⟨hp, rfl⟩
      · clear hN hl
        go_wp2_with (go_at_call 12; refine (HC.out _).mono ?_; rintro e w' ⟨rfl, rfl⟩)
        refine (HK.out _ _ HU7.out).mono ?_
        rintro e w8 ⟨rfl, hb8⟩
        have HB8 : Hid (Below w.heap.size w w8) := HB7.out.trans (hb8.mono HB7.out.size)
        clear hb8 HB7 HU7 HB6 z0 z1 z2
        have O2 : Hid (Own8 (w8.alloc (.cells #[] 5)) w8.heap.size (.slice (some ⟨w8.heap.size, 0, none⟩) 0 0) []) := Own8.new w8 [] 5 (by decide)
        have U2 : Hid (BS (w8.alloc (.cells #[] 5)) (.slice p l.length c) l) := H.out.on (HB8.out.alloc HB8.out.size _)
        have M2 : Hid (([] : List UInt8).length + l.length ≤ 1000000) := by have := hL.out; show _ ≤ _; simp only [List.length_nil]; omega
        have L2 : Hid (w8.heap.size ≤ (w8.alloc (.cells #[] 5)).heap.size) := by show _ ≤ _; simp
        have M3 : Hid (([] ++ l : List UInt8).length + ([32] : List UInt8).length ≤ 1000000) := by have := hL.out; show _ ≤ _; simp only [List.nil_append, List.length_cons, List.length_nil]; omega
        go_wp2_with (first | (refine wpList_app8g _ rfl (.tmp 81) (.tmp 82) rfl w8.heap.size _ _ [] l rfl rfl O2.out U2.out M2.out L2.out ?_; intro v5 w9 o9 hb9) | (refine wpList_app8g _ rfl (.tmp 83) (.tmp 84) rfl w8.heap.size _ _ ([] ++ l) [32] rfl rfl (o9.on ((Below.refl _ w9).alloc (Nat.le_refl _) (.cells #[.int .u8 32] 5))) (Own8.new w9 [32] 5 (by decide)).bs M3.out (Nat.le_trans L2.out (Nat.le_trans hb9.size (by simp))) ?_; intro vy w10 oy hb10))
        have B810 : Below w8.heap.size w8 w10 := (((Below.refl _ w8).alloc (Nat.le_refl _) _).trans hb9).trans ((((Below.refl _ w9).alloc (Nat.le_refl _) _).mono (Nat.le_trans L2.out hb9.size)).trans hb10)
        have hB10 : Below w.heap.size w w10 := HB8.out.trans (B810.mono HB8.out.size)
        refine (HJ.out _ _ oy.bs).mono ?_
        rintro e w11 ⟨rfl, hb11⟩
        have HB11 : Hid (Below w.heap.size w w11) := hB10.trans (hb11.mono hB10.size)
        clear hb9 hb10 o9 oy B810 hB10 hb11 O2 U2 M2 L2 M3
        go_wp2
        go_ret
        exact ⟨rfl, HB11.out⟩
      · have t2 : ((N : Int) == 0) = false := by rw [beq_eq_false_iff_ne]; omega
        have t3 : decide ((0 : Int) < (N : Int)) = true := decide_eq_true (by omega)
        have t4 : decide (0 < N) = true := decide_eq_true hp
        have b1 : (N : Int) ≤ 200 := by omega
        have b0 : (0 : Int) ≤ (N : Int) := by omega
        clear hp hN hl
        go_wp2_with (go_at_call 12; refine (HC.out _).mono ?_; rintro e w' ⟨rfl, rfl⟩)
        refine (HK.out _ _ HU7.out).mono ?_
        rintro e w8 ⟨rfl, hb8⟩
        have HB8 : Hid (Below w.heap.size w w8) := HB7.out.trans (hb8.mono HB7.out.size)
        clear hb8 HB7 HU7 HB6 z0 z1 z2
        have O2 : Hid (Own8 (w8.alloc (.cells #[] 5)) w8.heap.size (.slice (some ⟨w8.heap.size, 0, none⟩) 0 0) []) := Own8.new w8 [] 5 (by decide)
        have U2 : Hid (BS (w8.alloc (.cells #[] 5)) (.slice p l.length c) l) := H.out.on (HB8.out.alloc HB8.out.size _)
        have M2 : Hid (([] : List UInt8).length + l.length ≤ 1000000) := by have := hL.out; show _ ≤ _; simp only [List.length_nil]; omega
        have L2 : Hid (w8.heap.size ≤ (w8.alloc (.cells #[] 5)).heap.size) := by show _ ≤ _; simp
        have M3 : Hid (([] ++ l : List UInt8).length + ([32] : List UInt8).length ≤ 1000000) := by have := hL.out; show _ ≤ _; simp only [List.nil_append, List.length_cons, List.length_nil]; omega
        go_wp2_with (first | (refine wpList_app8g _ rfl (.tmp 81) (.tmp 82) rfl w8.heap.size _ _ [] l rfl rfl O2.out U2.out M2.out L2.out ?_; intro v5 w9 o9 hb9) | (refine wpList_app8g _ rfl (.tmp 83) (.tmp 84) rfl w8.heap.size _ _ ([] ++ l) [32] rfl rfl (o9.on ((Below.refl _ w9).alloc (Nat.le_refl _) (.cells #[.int .u8 32] 5))) (Own8.new w9 [32] 5 (by decide)).bs M3.out (Nat.le_trans L2.out (Nat.le_trans hb9.size (by simp))) ?_; intro vy w10 oy hb10))
        have B810 : Below w8.heap.size w8 w10 := (((Below.refl _ w8).alloc (Nat.le_refl _) _).trans hb9).trans ((((Below.refl _ w9).alloc (Nat.le_refl _) _).mono (Nat.le_trans L2.out hb9.size)).trans hb10)
        have hB10 : Below w.heap.size w w10 := HB8.out.trans (B810.mono HB8.out.size)
        refine (HJ.out _ _ oy.bs).mono ?_
        rintro e w11 ⟨rfl, hb11⟩
        have HB11 : Hid (Below w.heap.size w w11) := hB10.trans (hb11.mono hB10.size)
        clear hb9 hb10 o9 oy B810 hB10 hb11 O2 U2 M2 L2 M3
        go_wp2
        go_ret
        exact ⟨rfl, HB11.out⟩
theorem blanks2_w {v : Value} {l : List UInt8} {w : World} (h : BS w v l) (n : Nat) (hn256 : n < 256) :
    Calls Tryd.prog 6 #[v, .int .u8 (n : Int)] w fun e w' => e = .returned (.bool true) ∧ Below w.heap.size w w' := by
  by_cases hl : l.length ≤ 200
  · by_cases hn : n ≤ 50
    · obtain ⟨hz, hNM⟩ := spc_back n l
      have hN := numN_le l
      refine blanks2_core h n hn hl (fitZ (numZ l)) (fitC (numZ l).natAbs) (fit_le _) (numN l) (numN (spc n ++ l)) (looksB l) ?_ (by omega) ?_ ?_ ?_ ?_
      · rcases hNM with ⟨h1, h2⟩ | ⟨h1, h2⟩
        · exact Or.inl ⟨h1, h2⟩
        · exact Or.inr ⟨h1, h2⟩
      · intro W u hu; exact prefix_u hu (by omega)
      · intro W u hu
        have := prefix_u hu (by rw [List.length_append, spc_len]; omega)
        rwa [hz] at this
      · intro W u hu; exact looks_u hu (by omega)
      · intro W u hu
        have := looks_u hu (by simp; omega)
        rwa [looks_32] at this
    · have HA : Hid (∀ w, Calls Tryd.prog 9 #[] w fun e w' => e = .returned (.bool true) ∧ Below w.heap.size w w') := awake2
      obtain ⟨p, c, rfl, hlc, hcm, hU⟩ := h
      have t0 : decide ((200 : Int) < (l.length : Int)) = false := decide_eq_false (by omega)
      have t1 : decide ((50 : Int) < (n : Int)) = true := decide_eq_true (by omega)
      clear hU
      go_enter Tryd.func6, Tryd.ntmps6
      go_wp2_with fail; refine (HA.out _).mono ?_; rintro ew1 w1 ⟨rfl, hbw1⟩; obtain ⟨hcw1, hfw1⟩ := bcell hbw1; (try simp only [World.size_drew, World.cell?_drew, World.frozen?_drew] at hcw1 hfw1); have hzw1 := hbw1.size; (try simp at hzw1); (try dsimp only)
      go_wp2
      go_ret
      refine ⟨rfl, ?_⟩
      repeat (first | (with_reducible exact Below.refl _ _) | (with_reducible refine Below.drew ?_) | (refine Below.setCell ?_ (by first | exact Nat.le_refl _ | (simp; done) | (simp; omega) | omega) _) | (refine Below.alloc ?_ (by first | exact Nat.le_refl _ | (simp; done) | (simp; omega) | omega) _) | (refine Below.trans ?_ (Below.mono (by assumption) (by first | exact Nat.le_refl _ | (simp; done) | (simp; omega) | omega))))
  · have HA : Hid (∀ w, Calls Tryd.prog 9 #[] w fun e w' => e = .returned (.bool true) ∧ Below w.heap.size w w') := awake2
    obtain ⟨p, c, rfl, hlc, hcm, hU⟩ := h
    have t0 : decide ((200 : Int) < (l.length : Int)) = true := decide_eq_true (by omega)
    clear hU
    go_enter Tryd.func6, Tryd.ntmps6
    go_wp2_with fail; refine (HA.out _).mono ?_; rintro ew1 w1 ⟨rfl, hbw1⟩; obtain ⟨hcw1, hfw1⟩ := bcell hbw1; (try simp only [World.size_drew, World.cell?_drew, World.frozen?_drew] at hcw1 hfw1); have hzw1 := hbw1.size; (try simp at hzw1); (try dsimp only)
    go_wp2
    go_ret
    refine ⟨rfl, ?_⟩
    repeat (first | (with_reducible exact Below.refl _ _) | (with_reducible refine Below.drew ?_) | (refine Below.setCell ?_ (by first | exact Nat.le_refl _ | (simp; done) | (simp; omega) | omega) _) | (refine Below.alloc ?_ (by first | exact Nat.le_refl _ | (simp; done) | (simp; omega) | omega) _) | (refine Below.trans ?_ (Below.mono (by assumption) (by first | exact Nat.le_refl _ | (simp; done) | (simp; omega) | omega))))
end Go.Proofs.YtfecnogmjfmghaaDoor
