/- The contract of class of charset: a name. -/
import Derived.Test.YtfmekmbdienbjaaSetI
namespace Go.Proofs.Ytfmekmbdienbjaa
set_option linter.unusedSimpArgs false
set_option linter.unusedVariables false
set_option linter.unnecessarySimpa false
open Go.RowKit

/-- What class has at hand: the name's bytes, and what their class is. -/
theorem class_core {v : Value} {l : List UInt8} {w : World} (h : BS w v l) (hl : l.length ≤ 1000000000) (hM : HM w) (k s : Nat) (hk : k + 2 ≤ l.length) (hi : Lib.index (l.drop (k + 2)) [58, 93] = (s : Int))
    (o : Option (Nat → Bool)) (ho : clsL ((l.drop (k + 2)).take s) = o) :
    (∃ p c, v = .slice p l.length c ∧ Hid (∀ W, Below w.heap.size w W → ∀ u, BS W u [58, 93] → Calls Try.prog 43 #[subV p c (k + 2) l.length, u] W fun e w' => e = .returned (.int .i64 (s : Int)) ∧ Below W.heap.size W w')
      ∧ Hid (∀ W, Below w.heap.size w W → (convert 22 9 (subV p c (k + 2) (k + 2 + s))).run Try.prog W = .ok (.string (S8 ((l.drop (k + 2)).take s))) W)
      ∧ (∀ W, (Instr.slice 22 (.slice p l.length c) (some (.int .i64 ((k : Int) + 2))) none none).run Try.prog W = .ok (subV p c (k + 2) l.length) W)
      ∧ (∀ W, (Instr.slice 22 (.slice p l.length c) (some (.int .i64 ((k : Int) + 2))) (some (.int .i64 ((k : Int) + 2 + (s : Int)))) none).run Try.prog W = .ok (subV p c (k + 2) (k + 2 + s)) W))
    ∧ Hid (∀ W, Calls Try.prog 44 #[.string (S8 ((l.drop (k + 2)).take s))] W fun e w' => e = .returned (.tuple #[setV (o.getD nonP), .bool o.isSome]) ∧ Below W.heap.size W w')
    ∧ k + 2 + s + 2 ≤ l.length := by
  have H := Lib.hid h
  obtain ⟨p, c, rfl, hlc, hcm, hU⟩ := h
  have hr := idx_room hi
  rw [List.length_drop] at hr
  have HS : BS w (subV p c (k + 2) l.length) (l.drop (k + 2)) := by
    have := subV_bs hU hlc hcm (i := k + 2) (j := l.length) hk (Nat.le_refl _)
    rwa [List.take_of_length_le (by rw [List.length_drop]; exact Nat.le_refl _)] at this
  have HN : BS w (subV p c (k + 2) (k + 2 + s)) ((l.drop (k + 2)).take s) := by
    have := subV_bs hU hlc hcm (i := k + 2) (j := k + 2 + s) (by omega) (by omega)
    rwa [show k + 2 + s - (k + 2) = s by omega] at this
  refine ⟨⟨p, c, rfl, fun W hW u hu => ?_, fun W hW => run_str (HN.on hW), ?_, ?_⟩, fun W => ?_, by omega⟩
  · have := idx_v (HS.on hW) hu (by rw [List.length_drop]; omega) (by simp) (by simp) (hM.on hW)
    rw [hi] at this
    exact this
  · intro W
    have := run_sub_from p l.length c (k + 2) hk W
    rwa [show (((k + 2 : Nat)) : Int) = (k : Int) + 2 by omega] at this
  · intro W
    have := run_sub p l.length c (k + 2) (k + 2 + s) (by omega) (by omega) W
    rwa [show (((k + 2 : Nat)) : Int) = (k : Int) + 2 by omega, show (((k + 2 + s : Nat)) : Int) = (k : Int) + 2 + (s : Int) by omega] at this
  · have := cls_u ((l.drop (k + 2)).take s) W
    rw [ho] at this
    exact this

set_option maxRecDepth 100000 in
set_option maxHeartbeats 8000000 in
theorem class_name {v : Value} {l : List UInt8} {w : World} (h : BS w v l) (hl : l.length ≤ 1000000000) (hM : HM w) (k s : Nat) (hk : k + 2 ≤ l.length) (hi : Lib.index (l.drop (k + 2)) [58, 93] = (s : Int)) (ho : clsL ((l.drop (k + 2)).take s) = none) :
    Calls Try.prog 39 #[v, .int .i64 (k : Int)] w fun e w' => BadR w e w' k 8 := by
  obtain ⟨⟨p, c, rfl, HX, HV, s1, s2⟩, HC, hr⟩ := class_core h hl hM k s hk hi _ ho
  have HF : Hid (∀ w, Calls Try.prog 34 #[.int .i64 (k : Int), .int .i64 8] w fun e w' => e = .returned (.iface 47 (.pointer (some ⟨w.heap.size, 0, none⟩))) ∧ w' = w.alloc (.cells #[.int .i64 (k : Int), .iface 41 (.int .i64 8)] 49)) := fun w => fault_u k 8 w
  have w2 : IntKind.i64.wrap ((k : Int) + 2) = (k : Int) + 2 := by rw [IntKind.wrap_i64]; omega
  have w3' : IntKind.i64.wrap ((k : Int) + 2 + (s : Int)) = (k : Int) + 2 + (s : Int) := by rw [IntKind.wrap_i64]; omega
  have kc := close_cv w
  have HO : Hid _ := close_bs w
  have hs0 : ¬ ((s : Int) < 0) := by omega
  have h1 := Lib.hid h
  clear h hi ho
  generalize (l.drop (k + 2)).take s = N at *
  generalize subV p c (k + 2) l.length = sv at *
  generalize subV p c (k + 2) (k + 2 + s) = sn at *
  go_enter Try.func39, Try.ntmps39
  go_wp2_with fail
  have r0 : Row ((w.alloc (.cells zA 26)).alloc (.cells #[.int .u8 58, .int .u8 93] 5 (2, 3))) w.heap.size 26 zA := (Row.new w _ _).alloc _
  refine (HX.out _ (by repeat (first | (with_reducible exact Below.refl _ _) | (with_reducible refine Below.drew ?_) | (refine Below.setCell ?_ (by first | exact Nat.le_refl _ | (simp; done) | (simp; omega) | omega) _) | (refine Below.alloc ?_ (by first | exact Nat.le_refl _ | (simp; done) | (simp; omega) | omega) _) | (refine Below.trans ?_ (Below.mono (by assumption) (by first | exact Nat.le_refl _ | (simp; done) | (simp; omega) | omega))))) _ HO.out).mono ?_; rintro ew3 w3 ⟨rfl, hbw3⟩; obtain ⟨hcw3, hfw3⟩ := bcell hbw3; (try simp only [World.size_drew, World.cell?_drew, World.frozen?_drew] at hcw3 hfw3); have hzw3 := hbw3.size; (try simp at hzw3); have : w.heap.size < w3.heap.size := (by omega); have : w.heap.size + 1 < w3.heap.size := (by omega); (try dsimp only)
  have r := r0.on hbw3
  have hB : Below w.heap.size w w3 := by repeat (first | (with_reducible exact Below.refl _ _) | (with_reducible refine Below.drew ?_) | (refine Below.setCell ?_ (by first | exact Nat.le_refl _ | (simp; done) | (simp; omega) | omega) _) | (refine Below.alloc ?_ (by first | exact Nat.le_refl _ | (simp; done) | (simp; omega) | omega) _) | (refine Below.trans ?_ (Below.mono (by assumption) (by first | exact Nat.le_refl _ | (simp; done) | (simp; omega) | omega))))
  clear hcw3 hfw3 hbw3 r0
  have hcv := HV.out w3 hB
  go_wp2_with fail
  refine (HC.out _).mono ?_; rintro ew4 w4 ⟨rfl, hbw4⟩; obtain ⟨hcw4, hfw4⟩ := bcell hbw4; (try simp only [World.size_drew, World.cell?_drew, World.frozen?_drew] at hcw4 hfw4); have hzw4 := hbw4.size; (try simp at hzw4); have : w.heap.size < w4.heap.size := (by omega); have : w.heap.size + 1 < w4.heap.size := (by omega); (try dsimp only)
  have r' := r.on hbw4
  obtain ⟨k0, k1, k2, k3, f0, f1, f2, f3, z0⟩ := r'.four
  have hB4 : Below w.heap.size w w4 := hB.trans (hbw4.mono hB.size)
  simp only [Option.getD_none, Option.isSome_none]
  clear hcw4 hfw4 hbw4 r hB
  go_upto_region 6 with fail
  have r5 : Row ((((w4.setCell ⟨w.heap.size, 0, none⟩ (.int .u64 ((wd nonP 0 : Nat) : Int))).setCell ⟨w.heap.size, 1, none⟩ (.int .u64 ((wd nonP 1 : Nat) : Int))).setCell ⟨w.heap.size, 2, none⟩ (.int .u64 ((wd nonP 2 : Nat) : Int))).setCell ⟨w.heap.size, 3, none⟩ (.int .u64 ((wd nonP 3 : Nat) : Int))) w.heap.size 26 (setA nonP) := (((r'.set 0 _).set 1 _).set 2 _).set 3 _
  have hB5 : Below w.heap.size w ((((w4.setCell ⟨w.heap.size, 0, none⟩ (.int .u64 ((wd nonP 0 : Nat) : Int))).setCell ⟨w.heap.size, 1, none⟩ (.int .u64 ((wd nonP 1 : Nat) : Int))).setCell ⟨w.heap.size, 2, none⟩ (.int .u64 ((wd nonP 2 : Nat) : Int))).setCell ⟨w.heap.size, 3, none⟩ (.int .u64 ((wd nonP 3 : Nat) : Int))) := by repeat (first | (with_reducible exact Below.refl _ _) | (with_reducible refine Below.drew ?_) | (refine Below.setCell ?_ (by first | exact Nat.le_refl _ | (simp; done) | (simp; omega) | omega) _) | (refine Below.alloc ?_ (by first | exact Nat.le_refl _ | (simp; done) | (simp; omega) | omega) _) | (refine Below.trans ?_ (Below.mono (by assumption) (by first | exact Nat.le_refl _ | (simp; done) | (simp; omega) | omega))))
  clear k0 k1 k2 k3 f0 f1 f2 f3 z0 r' hB4 hzw4
  generalize ((((w4.setCell ⟨w.heap.size, 0, none⟩ (.int .u64 ((wd nonP 0 : Nat) : Int))).setCell ⟨w.heap.size, 1, none⟩ (.int .u64 ((wd nonP 1 : Nat) : Int))).setCell ⟨w.heap.size, 2, none⟩ (.int .u64 ((wd nonP 2 : Nat) : Int))).setCell ⟨w.heap.size, 3, none⟩ (.int .u64 ((wd nonP 3 : Nat) : Int))) = w5 at *
  obtain ⟨k0, k1, k2, k3, f0, f1, f2, f3, z0⟩ := r5.four
  go_wp2_with (go_at_call 34; refine (HF.out _).mono ?_; rintro e w' ⟨rfl, rfl⟩)
  refine bodyPost_ret (v := .tuple #[zeroV, .int .i64 0, .iface 47 (.pointer (some ⟨w5.heap.size, 0, none⟩))]) (by simp [results, Try.results39, go_sem, *]) rfl ?_
  refine ⟨_, rfl, hB5.size, Row.new' (by simp), ?_⟩
  repeat (first | (with_reducible exact Below.refl _ _) | (with_reducible refine Below.drew ?_) | (refine Below.setCell ?_ (by first | exact Nat.le_refl _ | (simp; done) | (simp; omega) | omega) _) | (refine Below.alloc ?_ (by first | exact Nat.le_refl _ | (simp; done) | (simp; omega) | omega) _) | (refine Below.trans ?_ (Below.mono (by assumption) (by first | exact Nat.le_refl _ | (simp; done) | (simp; omega) | omega))))

set_option maxRecDepth 100000 in
set_option maxHeartbeats 8000000 in
theorem class_good {v : Value} {l : List UInt8} {w : World} (h : BS w v l) (hl : l.length ≤ 1000000000) (hM : HM w) (k s : Nat) (hk : k + 2 ≤ l.length) (hi : Lib.index (l.drop (k + 2)) [58, 93] = (s : Int)) (P : Nat → Bool) (ho : clsL ((l.drop (k + 2)).take s) = some P) :
    Calls Try.prog 39 #[v, .int .i64 (k : Int)] w fun e w' => e = .returned (.tuple #[setV P, .int .i64 ((k + 2 + s + 2 : Nat) : Int), .nilIface]) ∧ Below w.heap.size w w' := by
  obtain ⟨⟨p, c, rfl, HX, HV, s1, s2⟩, HC, hr⟩ := class_core h hl hM k s hk hi _ ho
  have w2 : IntKind.i64.wrap ((k : Int) + 2) = (k : Int) + 2 := by rw [IntKind.wrap_i64]; omega
  have w3' : IntKind.i64.wrap ((k : Int) + 2 + (s : Int)) = (k : Int) + 2 + (s : Int) := by rw [IntKind.wrap_i64]; omega
  have w4' : IntKind.i64.wrap ((k : Int) + 2 + (s : Int) + 2) = (k : Int) + 2 + (s : Int) + 2 := by rw [IntKind.wrap_i64]; omega
  rw [show (((k + 2 + s + 2 : Nat)) : Int) = (k : Int) + 2 + (s : Int) + 2 by omega]
  have kc := close_cv w
  have HO : Hid _ := close_bs w
  have hs0 : ¬ ((s : Int) < 0) := by omega
  have h1 := Lib.hid h
  clear h hi ho
  generalize (l.drop (k + 2)).take s = N at *
  generalize subV p c (k + 2) l.length = sv at *
  generalize subV p c (k + 2) (k + 2 + s) = sn at *
  simp only [Option.getD_some, Option.isSome_some] at HC
  go_enter Try.func39, Try.ntmps39
  go_wp2_with fail
  have r0 : Row ((w.alloc (.cells zA 26)).alloc (.cells #[.int .u8 58, .int .u8 93] 5 (2, 3))) w.heap.size 26 zA := (Row.new w _ _).alloc _
  refine (HX.out _ (by repeat (first | (with_reducible exact Below.refl _ _) | (with_reducible refine Below.drew ?_) | (refine Below.setCell ?_ (by first | exact Nat.le_refl _ | (simp; done) | (simp; omega) | omega) _) | (refine Below.alloc ?_ (by first | exact Nat.le_refl _ | (simp; done) | (simp; omega) | omega) _) | (refine Below.trans ?_ (Below.mono (by assumption) (by first | exact Nat.le_refl _ | (simp; done) | (simp; omega) | omega))))) _ HO.out).mono ?_; rintro ew3 w3 ⟨rfl, hbw3⟩; obtain ⟨hcw3, hfw3⟩ := bcell hbw3; (try simp only [World.size_drew, World.cell?_drew, World.frozen?_drew] at hcw3 hfw3); have hzw3 := hbw3.size; (try simp at hzw3); have : w.heap.size < w3.heap.size := (by omega); have : w.heap.size + 1 < w3.heap.size := (by omega); (try dsimp only)
  have r := r0.on hbw3
  have hB : Below w.heap.size w w3 := by repeat (first | (with_reducible exact Below.refl _ _) | (with_reducible refine Below.drew ?_) | (refine Below.setCell ?_ (by first | exact Nat.le_refl _ | (simp; done) | (simp; omega) | omega) _) | (refine Below.alloc ?_ (by first | exact Nat.le_refl _ | (simp; done) | (simp; omega) | omega) _) | (refine Below.trans ?_ (Below.mono (by assumption) (by first | exact Nat.le_refl _ | (simp; done) | (simp; omega) | omega))))
  clear hcw3 hfw3 hbw3 r0
  have hcv := HV.out w3 hB
  go_wp2_with fail
  refine (HC.out _).mono ?_; rintro ew4 w4 ⟨rfl, hbw4⟩; obtain ⟨hcw4, hfw4⟩ := bcell hbw4; (try simp only [World.size_drew, World.cell?_drew, World.frozen?_drew] at hcw4 hfw4); have hzw4 := hbw4.size; (try simp at hzw4); have : w.heap.size < w4.heap.size := (by omega); have : w.heap.size + 1 < w4.heap.size := (by omega); (try dsimp only)
  have r' := r.on hbw4
  obtain ⟨k0, k1, k2, k3, f0, f1, f2, f3, z0⟩ := r'.four
  have hB4 : Below w.heap.size w w4 := hB.trans (hbw4.mono hB.size)
  clear hcw4 hfw4 hbw4 r hB
  go_upto_region 6 with fail
  have r5 : Row ((((w4.setCell ⟨w.heap.size, 0, none⟩ (.int .u64 ((wd P 0 : Nat) : Int))).setCell ⟨w.heap.size, 1, none⟩ (.int .u64 ((wd P 1 : Nat) : Int))).setCell ⟨w.heap.size, 2, none⟩ (.int .u64 ((wd P 2 : Nat) : Int))).setCell ⟨w.heap.size, 3, none⟩ (.int .u64 ((wd P 3 : Nat) : Int))) w.heap.size 26 (setA P) := (((r'.set 0 _).set 1 _).set 2 _).set 3 _
  have hB5 : Below w.heap.size w ((((w4.setCell ⟨w.heap.size, 0, none⟩ (.int .u64 ((wd P 0 : Nat) : Int))).setCell ⟨w.heap.size, 1, none⟩ (.int .u64 ((wd P 1 : Nat) : Int))).setCell ⟨w.heap.size, 2, none⟩ (.int .u64 ((wd P 2 : Nat) : Int))).setCell ⟨w.heap.size, 3, none⟩ (.int .u64 ((wd P 3 : Nat) : Int))) := by repeat (first | (with_reducible exact Below.refl _ _) | (with_reducible refine Below.drew ?_) | (refine Below.setCell ?_ (by first | exact Nat.le_refl _ | (simp; done) | (simp; omega) | omega) _) | (refine Below.alloc ?_ (by first | exact Nat.le_refl _ | (simp; done) | (simp; omega) | omega) _) | (refine Below.trans ?_ (Below.mono (by assumption) (by first | exact Nat.le_refl _ | (simp; done) | (simp; omega) | omega))))
  clear k0 k1 k2 k3 f0 f1 f2 f3 z0 r' hB4 hzw4
  generalize ((((w4.setCell ⟨w.heap.size, 0, none⟩ (.int .u64 ((wd P 0 : Nat) : Int))).setCell ⟨w.heap.size, 1, none⟩ (.int .u64 ((wd P 1 : Nat) : Int))).setCell ⟨w.heap.size, 2, none⟩ (.int .u64 ((wd P 2 : Nat) : Int))).setCell ⟨w.heap.size, 3, none⟩ (.int .u64 ((wd P 3 : Nat) : Int))) = w5 at *
  obtain ⟨k0, k1, k2, k3, f0, f1, f2, f3, z0⟩ := r5.four
  go_wp2
  refine bodyPost_ret (v := .tuple #[setV P, .int .i64 ((k : Int) + 2 + (s : Int) + 2), .nilIface]) (by simp [results, Try.results39, go_sem, *]) rfl ⟨rfl, ?_⟩
  repeat (first | (with_reducible exact Below.refl _ _) | (with_reducible refine Below.drew ?_) | (refine Below.setCell ?_ (by first | exact Nat.le_refl _ | (simp; done) | (simp; omega) | omega) _) | (refine Below.alloc ?_ (by first | exact Nat.le_refl _ | (simp; done) | (simp; omega) | omega) _) | (refine Below.trans ?_ (Below.mono (by assumption) (by first | exact Nat.le_refl _ | (simp; done) | (simp; omega) | omega))))

theorem clas_ok {v : Value} {l : List UInt8} {w : World} (h : BS w v l) (hl : l.length ≤ 1000000000) (hM : HM w) (k : Nat) (hk : k + 2 ≤ l.length) {P : Nat → Bool} {n : Nat} (hr : clasM l k = .ok P n) :
    Calls Try.prog 39 #[v, .int .i64 (k : Int)] w fun e w' => e = .returned (.tuple #[setV P, .int .i64 (n : Int), .nilIface]) ∧ Below w.heap.size w w' := by
  unfold clasM at hr
  split at hr
  · cases hr
  · rename_i h0
    obtain ⟨s, hs⟩ := Int.eq_ofNat_of_zero_le (Int.not_lt.1 h0)
    rw [hs] at hr
    split at hr
    · cases hr
    · rename_i q hq
      injection hr with h1 h2
      subst h1 h2
      exact class_good h hl hM k s hk hs _ hq
theorem clas_bad {v : Value} {l : List UInt8} {w : World} (h : BS w v l) (hl : l.length ≤ 1000000000) (hM : HM w) (k : Nat) (hk : k + 2 ≤ l.length) {a c : Nat} (hr : clasM l k = .bad a c) :
    Calls Try.prog 39 #[v, .int .i64 (k : Int)] w fun e w' => BadR w e w' a c := by
  unfold clasM at hr
  split at hr
  · rename_i h0
    injection hr with h1 h2
    subst h1 h2
    exact class_end h hl hM k hk h0
  · rename_i h0
    obtain ⟨s, hs⟩ := Int.eq_ofNat_of_zero_le (Int.not_lt.1 h0)
    rw [hs] at hr
    split at hr
    · rename_i hq
      injection hr with h1 h2
      subst h1 h2
      exact class_name h hl hM k s hk hs hq
    · cases hr
end Go.Proofs.Ytfmekmbdienbjaa
