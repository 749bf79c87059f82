/- The contracts of class and member of charset. -/
import Derived.Test.YtfmekmbdienbjaaSetH
import Derived.Lib.SlBytesConst
namespace Go.Proofs.Ytfmekmbdienbjaa
set_option linter.unusedSimpArgs false
set_option linter.unusedVariables false
set_option linter.unnecessarySimpa false
open Go.RowKit

/-- What is at a place: a set, and the place behind it; or what is wrong, and where. -/
inductive MR where
  | ok (p : Nat → Bool) (n : Nat)
  | bad (a c : Nat)
/-- The class at a place. -/
def clasM (l : List UInt8) (k : Nat) : MR :=
  if Lib.index (l.drop (k + 2)) [58, 93] < 0 then .bad l.length 7
  else match clsL ((l.drop (k + 2)).take (Lib.index (l.drop (k + 2)) [58, 93]).toNat) with
    | none => .bad k 8
    | some p => .ok p (k + 2 + (Lib.index (l.drop (k + 2)) [58, 93]).toNat + 2)
/-- The member at a place. -/
def memM (l : List UInt8) (k : Nat) : MR :=
  if begL l k 91 58 = true then clasM l k
  else match letL l k with
    | none => .bad l.length 7
    | some (f, n) =>
      if goesL l n = false then .ok (rngP f.toNat f.toNat) n
      else if begL l (n + 1) 91 58 = true then .bad k 4
      else match letL l (n + 1) with
        | none => .bad l.length 7
        | some (t, m) => if t.toNat < f.toNat then .bad k 4 else .ok (rngP f.toNat t.toNat) m
theorem idx_room {l : List UInt8} {s : Nat} (h : Lib.index l [58, 93] = (s : Int)) : s + 2 ≤ l.length := by
  have := Lib.index_room l [58, 93] (by rw [h]; omega)
  rw [h] at this
  simp at this
  omega
theorem clasM_adv {l : List UInt8} {k n : Nat} {p : Nat → Bool} (hb : k + 2 ≤ l.length) (h : clasM l k = .ok p n) : k < n ∧ n ≤ l.length := by
  unfold clasM at h
  split at h
  · cases h
  · rename_i h0
    obtain ⟨s, hs⟩ := Int.eq_ofNat_of_zero_le (Int.not_lt.1 h0)
    have hr := idx_room hs
    rw [List.length_drop] at hr
    rw [hs] at h
    split at h
    · cases h
    · injection h with _ h2
      simp at h2
      omega
theorem begL_lt {l : List UInt8} {k : Nat} {c d : UInt8} (h : begL l k c d = true) : k + 2 ≤ l.length := by
  unfold begL at h
  rw [Bool.and_eq_true] at h
  have := (isL_lt h.2).1
  omega
theorem memM_adv {l : List UInt8} {k n : Nat} {p : Nat → Bool} (h : memM l k = .ok p n) : k < n ∧ n ≤ l.length := by
  unfold memM at h
  split at h
  · rename_i hb
    exact clasM_adv (begL_lt hb) h
  · split at h
    · cases h
    · rename_i f m hm
      have h1 := letL_le hm
      split at h
      · injection h with _ h2; omega
      · split at h
        · cases h
        · split at h
          · cases h
          · rename_i t m' hm'
            have h2 := letL_le hm'
            split at h
            · cases h
            · injection h with _ h3; omega

abbrev zeroV : Value := .agg #[.int .u64 0, .int .u64 0, .int .u64 0, .int .u64 0]
/-- How a call ends that tells an error at a place. -/
def BadR (w : World) (e : Ending) (w' : World) (a c : Nat) : Prop :=
  ∃ b, e = .returned (.tuple #[zeroV, .int .i64 0, .iface 47 (.pointer (some ⟨b, 0, none⟩))]) ∧ w.heap.size ≤ b ∧ Row w' b 49 #[.int .i64 (a : Int), .iface 41 (.int .i64 (c : Int))] ∧ Below w.heap.size w w'

/-- A block made of bytes reads as them. -/
theorem bs_new (w : World) (l : List UInt8) (T : TypeId) (fr : Nat × Nat) (hl : l.length ≤ maxLen) : BS (w.alloc (.cells (bvs l).toArray T fr)) (.slice (some ⟨w.heap.size, 0, none⟩) l.length l.length) l := by
  refine ⟨_, l.length, rfl, Nat.le_refl _, hl, fun _ => ⟨w.heap.size, 0, rfl, by simp, fun j hj => ?_⟩⟩
  rw [World.cell?_alloc_mark, List.getElem?_toArray, Nat.zero_add]
  exact bvs_get hj
theorem Row.new' {X : World} {b : Nat} {T : TypeId} {cs : Array Value} (h : X.heap.size = b) : Row (X.alloc (.cells cs T)) b T cs := h ▸ Row.new X T cs
theorem Row.four {w : World} {b : Nat} {T : TypeId} {x0 x1 x2 x3 : Value} (h : Row w b T #[x0, x1, x2, x3]) :
    w.cell? ⟨b, 0, none⟩ = some x0 ∧ w.cell? ⟨b, 1, none⟩ = some x1 ∧ w.cell? ⟨b, 2, none⟩ = some x2 ∧ w.cell? ⟨b, 3, none⟩ = some x3 ∧
    w.frozen? ⟨b, 0, none⟩ = false ∧ w.frozen? ⟨b, 1, none⟩ = false ∧ w.frozen? ⟨b, 2, none⟩ = false ∧ w.frozen? ⟨b, 3, none⟩ = false ∧ b < w.heap.size :=
  ⟨h.cell 0, h.cell 1, h.cell 2, h.cell 3, h.froz 0, h.froz 1, h.froz 2, h.froz 3, h.lt⟩
abbrev zA : Array Value := #[.int .u64 0, .int .u64 0, .int .u64 0, .int .u64 0]
theorem close_bs (w : World) : BS ((w.alloc (.cells zA 26)).alloc (.cells #[.int .u8 58, .int .u8 93] 5 (2, 3))) (.slice (some ⟨w.heap.size + 1, 0, none⟩) 2 2) [58, 93] := by
  have := bs_new (w.alloc (.cells zA 26)) [58, 93] 5 (2, 3) (by simp [maxLen])
  rw [show (bvs [58, 93]).toArray = #[.int .u8 58, .int .u8 93] from rfl, show (w.alloc (.cells zA 26)).heap.size = w.heap.size + 1 by simp] at this
  exact this

theorem close_cv (w : World) : (convert 22 22 (.slice (some ⟨w.heap.size + 1, 0, none⟩) 2 2)).run Try.prog ((w.alloc (.cells zA 26)).alloc (.cells #[.int .u8 58, .int .u8 93] 5)) = .ok (.slice (some ⟨w.heap.size + 1, 0, none⟩) 2 2) ((w.alloc (.cells zA 26)).alloc (.cells #[.int .u8 58, .int .u8 93] 5 (2, 3))) := by
  have := Lib.run_convert_bytes_const (P := Try.prog) (w.alloc (.cells zA 26)) 22 5 #[.int .u8 58, .int .u8 93] 2 2 Try.underlying22 Try.underlying5
  rw [show (w.alloc (.cells zA 26)).heap.size = w.heap.size + 1 by simp] at this
  exact this
set_option maxRecDepth 100000 in
set_option maxHeartbeats 8000000 in
theorem class_end {v : Value} {l : List UInt8} {w : World} (h : BS w v l) (hl : l.length ≤ 1000000000) (hM : HM w) (k : Nat) (hk : k + 2 ≤ l.length) (hi : Lib.index (l.drop (k + 2)) [58, 93] < 0) :
    Calls Try.prog 39 #[v, .int .i64 (k : Int)] w fun e w' => BadR w e w' l.length 7 := by
  have H := Lib.hid h
  obtain ⟨p, c, rfl, hlc, hcm, hU⟩ := h
  have HS : Hid (BS w (subV p c (k + 2) l.length) (l.drop (k + 2))) := by
    have := subV_bs hU hlc hcm (i := k + 2) (j := l.length) hk (Nat.le_refl _)
    rwa [List.take_of_length_le (by rw [List.length_drop]; exact Nat.le_refl _)] at this
  have hS := run_sub_from p l.length c (k + 2) hk
  rw [show (((k + 2 : Nat)) : Int) = (k : Int) + 2 by omega] at hS
  have HF : Hid (∀ w, Calls Try.prog 34 #[.int .i64 (l.length : Int), .int .i64 7] w fun e w' => e = .returned (.iface 47 (.pointer (some ⟨w.heap.size, 0, none⟩))) ∧ w' = w.alloc (.cells #[.int .i64 (l.length : Int), .iface 41 (.int .i64 7)] 49)) := fun w => fault_u l.length 7 w
  have w2 : IntKind.i64.wrap ((k : Int) + 2) = (k : Int) + 2 := by rw [IntKind.wrap_i64]; omega
  have HX : Hid (∀ W, Below w.heap.size w W → ∀ u, BS W u [58, 93] → Calls Try.prog 43 #[subV p c (k + 2) l.length, u] W fun e w' => e = .returned (.int .i64 (Lib.index (l.drop (k + 2)) [58, 93])) ∧ Below W.heap.size W w') := fun W hW u hu => idx_v (HS.out.on hW) hu (by rw [List.length_drop]; omega) (by simp) (by simp) (hM.on hW)
  have kc := close_cv w
  have HO : Hid _ := close_bs w
  clear hU HS H
  generalize Lib.index (l.drop (k + 2)) [58, 93] = x at *
  generalize subV p c (k + 2) l.length = sv at *
  go_enter Try.func39, Try.ntmps39
  go_wp2_with fail
  have r0 : Row ((w.alloc (.cells zA 26)).alloc (.cells #[.int .u8 58, .int .u8 93] 5 (2, 3))) w.heap.size 26 zA := (Row.new w _ _).alloc _
  refine (HX.out _ (by repeat (first | (with_reducible exact Below.refl _ _) | (with_reducible refine Below.drew ?_) | (refine Below.setCell ?_ (by first | exact Nat.le_refl _ | (simp; done) | (simp; omega) | omega) _) | (refine Below.alloc ?_ (by first | exact Nat.le_refl _ | (simp; done) | (simp; omega) | omega) _) | (refine Below.trans ?_ (Below.mono (by assumption) (by first | exact Nat.le_refl _ | (simp; done) | (simp; omega) | omega))))) _ HO.out).mono ?_; rintro ew3 w3 ⟨rfl, hbw3⟩; obtain ⟨hcw3, hfw3⟩ := bcell hbw3; (try simp only [World.size_drew, World.cell?_drew, World.frozen?_drew] at hcw3 hfw3); have hzw3 := hbw3.size; (try simp at hzw3); have : w.heap.size < w3.heap.size := (by omega); have : w.heap.size + 1 < w3.heap.size := (by omega); (try dsimp only)
  have r := r0.on hbw3
  obtain ⟨k0, k1, k2, k3, f0, f1, f2, f3, z0⟩ := r.four
  have hB : Below w.heap.size w w3 := by repeat (first | (with_reducible exact Below.refl _ _) | (with_reducible refine Below.drew ?_) | (refine Below.setCell ?_ (by first | exact Nat.le_refl _ | (simp; done) | (simp; omega) | omega) _) | (refine Below.alloc ?_ (by first | exact Nat.le_refl _ | (simp; done) | (simp; omega) | omega) _) | (refine Below.trans ?_ (Below.mono (by assumption) (by first | exact Nat.le_refl _ | (simp; done) | (simp; omega) | omega))))
  clear hcw3 hfw3 hbw3 r0
  go_wp2_with (go_at_call 34; refine (HF.out _).mono ?_; rintro e w' ⟨rfl, rfl⟩)
  refine bodyPost_ret (v := .tuple #[zeroV, .int .i64 0, .iface 47 (.pointer (some ⟨w3.heap.size, 0, none⟩))]) (by simp [results, Try.results39, go_sem, *]) rfl ?_
  refine ⟨_, rfl, by omega, Row.new' (by simp), ?_⟩
  repeat (first | (with_reducible exact Below.refl _ _) | (with_reducible refine Below.drew ?_) | (refine Below.setCell ?_ (by first | exact Nat.le_refl _ | (simp; done) | (simp; omega) | omega) _) | (refine Below.alloc ?_ (by first | exact Nat.le_refl _ | (simp; done) | (simp; omega) | omega) _) | (refine Below.trans ?_ (Below.mono (by assumption) (by first | exact Nat.le_refl _ | (simp; done) | (simp; omega) | omega))))

end Go.Proofs.Ytfmekmbdienbjaa
