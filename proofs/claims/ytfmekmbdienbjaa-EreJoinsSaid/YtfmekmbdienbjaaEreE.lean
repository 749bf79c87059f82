/- Layer 4: parts in memory; the contracts of setPart and together. -/
import Derived.Test.YtfmekmbdienbjaaEreD
import Derived.Laws.AppendOwn
import Derived.Laws.Tables
namespace Go.Proofs.Ytfmekmbdienbjaa
set_option linter.unusedSimpArgs false
set_option linter.unusedVariables false
set_option linter.unnecessarySimpa false
open Go.RowKit

/-- Below B the world w' is as w was, but for the block rb. -/
structure Kept (rb B : Nat) (w w' : World) : Prop where
  os : w'.os = w.os
  tape : w'.tape = w.tape
  output : w'.output = w.output
  size : w.heap.size ≤ w'.heap.size
  block : ∀ k, k < B → k ≠ rb → w'.heap[k]? = w.heap[k]?
theorem Kept.refl (rb B : Nat) (w : World) : Kept rb B w w := ⟨rfl, rfl, rfl, Nat.le_refl _, fun _ _ _ => rfl⟩
theorem Kept.trans {rb B : Nat} {a b c : World} (h : Kept rb B a b) (k : Kept rb B b c) : Kept rb B a c :=
  ⟨k.os.trans h.os, k.tape.trans h.tape, k.output.trans h.output, Nat.le_trans h.size k.size, fun i hi hn => (k.block i hi hn).trans (h.block i hi hn)⟩
theorem Kept.mono {rb B B' : Nat} {w w' : World} (h : Kept rb B w w') (hB : B' ≤ B) : Kept rb B' w w' := ⟨h.os, h.tape, h.output, h.size, fun k hk => h.block k (Nat.lt_of_lt_of_le hk hB)⟩
theorem Kept.of {rb B : Nat} {w w' : World} (h : Below B w w') : Kept rb B w w' := ⟨h.os, h.tape, h.output, h.size, fun k hk _ => h.block k hk⟩
theorem Kept.below {rb B B' : Nat} {w w' : World} (h : Kept rb B w w') (h1 : B' ≤ rb) (h2 : B' ≤ B) : Below B' w w' := ⟨h.os, h.tape, h.output, h.size, fun k hk => h.block k (by omega) (by omega)⟩
theorem Kept.then {rb B : Nat} {a w w' : World} (h : Kept rb B a w) (k : Below w.heap.size w w') (hB : B ≤ w.heap.size) : Kept rb B a w' := h.trans (Kept.of (k.mono hB))
theorem Kept.thenK {rb B : Nat} {a w w' : World} (h : Kept rb B a w) (k : Kept rb w.heap.size w w') (hB : B ≤ w.heap.size) : Kept rb B a w' := h.trans (k.mono hB)
theorem Kept.drew {rb B : Nat} {a w : World} (h : Kept rb B a w) : Kept rb B a w.drew := ⟨h.os, h.tape, h.output, h.size, h.block⟩
theorem Kept.alloc {rb B : Nat} {a w : World} (h : Kept rb B a w) (hB : B ≤ w.heap.size) (o : Obj) : Kept rb B a (w.alloc o) :=
  h.trans ⟨rfl, rfl, rfl, by simp, fun k hk _ => Below.heap_alloc _ _ _ (by omega)⟩
theorem Kept.setCell {rb B : Nat} {a w : World} (h : Kept rb B a w) {p : Addr} (hp : B ≤ p.block ∨ p.block = rb) (u : Value) : Kept rb B a (w.setCell p u) :=
  h.trans ⟨rfl, rfl, rfl, by simp [World.setCell], fun k hk hn => Below.heap_setCell _ _ _ _ (by omega)⟩
theorem Kept.grown {rb B : Nat} {a w w' : World} {row : Option Nat} (h : Kept rb B a w) (hg : w.grownBy w' row) (hB : B ≤ w.heap.size) (hr : ∀ k, row = some k → B ≤ k) : Kept rb B a w' :=
  h.trans ⟨hg.os, hg.tape, hg.output, hg.size, fun k hk hn => hg.block k (by omega) (fun e => by have := hr k e.symm; omega)⟩
theorem Row.kept {w w' : World} {b rb B : Nat} {T : TypeId} {cs : Array Value} (h : Row w b T cs) (k : Kept rb B w w') (hb : b < B) (hn : b ≠ rb) : Row w' b T cs := (k.block b hb hn).trans h

/-- The cells of a part. -/
abbrev partA (k : Nat) (p : Nat → Bool) (a b : Int) (lv : Value) : Array Value := #[.int .i64 (k : Int), .int .u64 (wd p 0 : Int), .int .u64 (wd p 1 : Int), .int .u64 (wd p 2 : Int), .int .u64 (wd p 3 : Int), .int .i64 a, .int .i64 b, lv]
abbrev zeroPA : Array Value := #[.int .i64 0, .int .u64 0, .int .u64 0, .int .u64 0, .int .u64 0, .int .i64 0, .int .i64 0, .slice none 0 0]
theorem zero_part : partA 0 nonP 0 0 (.slice none 0 0) = zeroPA := by
  have h := nonP_A
  unfold setA at h
  simp only [Array.mk.injEq, List.cons.injEq, Value.int.injEq, true_and, and_true] at h
  unfold partA
  rw [h.1, h.2.1, h.2.2.1, h.2.2.2]; rfl
theorem zero_setp (k : Nat) (a b : Int) (lv : Value) : partA k nonP a b lv = #[.int .i64 (k : Int), .int .u64 0, .int .u64 0, .int .u64 0, .int .u64 0, .int .i64 a, .int .i64 b, lv] := by
  have h := nonP_A
  unfold setA at h
  simp only [Array.mk.injEq, List.cons.injEq, Value.int.injEq, true_and, and_true] at h
  unfold partA
  rw [h.1, h.2.1, h.2.2.1, h.2.2.2]
/-- The cells cs read as a part whose lists lie in blocks of S. -/
inductive PValS (w : World) (S : Nat → Prop) : Array Value → PT → Prop where
  | mk (k : Nat) (p : Nat → Bool) (a b : Int) (l : List PT) (ad : Option Addr) (cap blk : Nat) (cs : Nat → Array Value)
      (h0 : l.length ≤ cap ∧ cap ≤ maxLen) (h1 : l ≠ [] → ad = some ⟨blk, 0, none⟩ ∧ S blk ∧ blk < w.heap.size)
      (hc : ∀ j, j < l.length → ∀ i v, (cs j)[i]? = some v → w.cell? ⟨blk, 8 * j + i, none⟩ = some v)
      (hs : ∀ j (h : j < l.length), PValS w S (cs j) l[j]) : PValS w S (partA k p a b (.slice ad l.length cap)) (.node k p a b l)
theorem PValS.inv {w : World} {S : Nat → Prop} {c : Array Value} {t : PT} (h : PValS w S c t) : ∃ (k : Nat) (p : Nat → Bool) (a b : Int) (ad : Option Addr) (n cap : Nat), c = partA k p a b (.slice ad n cap) := by
  cases h with
  | mk k p a b l ad cap blk cs h0 h1 hc hs => exact ⟨k, p, a, b, ad, l.length, cap, rfl⟩
theorem PValS.at {w w' : World} {S S' : Nat → Prop} {c : Array Value} {t : PT} (h : PValS w S c t) (hz : w.heap.size ≤ w'.heap.size) (k : ∀ b, S b → b < w.heap.size → w'.heap[b]? = w.heap[b]? ∧ S' b) : PValS w' S' c t := by
  induction h with
  | mk n p a b l ad cap blk cs h0 h1 hc hs ih =>
    refine .mk n p a b l ad cap blk cs h0 (fun hn => ⟨(h1 hn).1, (k _ (h1 hn).2.1 (h1 hn).2.2).2, Nat.lt_of_lt_of_le (h1 hn).2.2 hz⟩) ?_ ih
    intro j hj i v hv
    have hn : l ≠ [] := by rintro rfl; simp at hj
    have hb := (h1 hn).2
    rw [World.cell?_of_block (w := w) (k blk hb.1 hb.2).1]
    exact hc j hj i v hv
/-- Blocks from lo on. -/
abbrev Ge (lo : Nat) : Nat → Prop := fun b => lo ≤ b
abbrev PVal (w : World) (lo : Nat) (c : Array Value) (t : PT) : Prop := PValS w (Ge lo) c t
theorem PVal.inv {w : World} {lo : Nat} {c : Array Value} {t : PT} (h : PVal w lo c t) : ∃ (k : Nat) (p : Nat → Bool) (a b : Int) (ad : Option Addr) (n cap : Nat), c = partA k p a b (.slice ad n cap) := PValS.inv h
theorem PVal.at {w w' : World} {lo : Nat} {c : Array Value} {t : PT} (h : PVal w lo c t) (hz : w.heap.size ≤ w'.heap.size) (k : ∀ b, lo ≤ b → b < w.heap.size → w'.heap[b]? = w.heap[b]?) : PVal w' lo c t :=
  PValS.at h hz fun b h1 h2 => ⟨k b h1 h2, h1⟩
theorem PVal.le {w : World} {lo lo' : Nat} {c : Array Value} {t : PT} (h : PVal w lo c t) (k : lo' ≤ lo) : PVal w lo' c t :=
  PValS.at h (Nat.le_refl _) fun b h1 h2 => ⟨rfl, Nat.le_trans k h1⟩
theorem PVal.on {w w' : World} {rb lo : Nat} {c : Array Value} {t : PT} (h : PVal w lo c t) (k : Kept rb w.heap.size w w') (hr : rb < lo) : PVal w' lo c t :=
  PVal.at h k.size fun b h1 h2 => k.block b h2 (by omega)
theorem PVal.blw {w w' : World} {lo : Nat} {c : Array Value} {t : PT} (h : PVal w lo c t) (k : Below w.heap.size w w') : PVal w' lo c t :=
  PVal.at h k.size fun b h1 h2 => k.block b h2
theorem PVal.setRow {w : World} {lo g : Nat} {c : Array Value} {t : PT} (h : PVal w lo c t) (hg : g < lo) (cs : Array Value) : PVal (w.setRow g cs) lo c t :=
  PVal.at h (by simp) fun b h1 h2 => setRow_other w g b cs (by omega)
theorem PValS.on {w w' : World} {rb : Nat} {S : Nat → Prop} {c : Array Value} {t : PT} (h : PValS w S c t) (k : Kept rb w.heap.size w w') (hr : ∀ b, S b → b ≠ rb) : PValS w' S c t :=
  h.at k.size fun b h1 h2 => ⟨k.block b h2 (hr b h1), h1⟩
theorem PValS.blw {w w' : World} {S : Nat → Prop} {c : Array Value} {t : PT} (h : PValS w S c t) (k : Below w.heap.size w w') : PValS w' S c t :=
  h.at k.size fun b h1 h2 => ⟨k.block b h2, h1⟩
theorem PValS.imp {w : World} {S S' : Nat → Prop} {c : Array Value} {t : PT} (h : PValS w S c t) (k : ∀ b, S b → b < w.heap.size → S' b) : PValS w S' c t :=
  h.at (Nat.le_refl _) fun b h1 h2 => ⟨rfl, k b h1 h2⟩
theorem PValS.setRow {w : World} {S : Nat → Prop} {g : Nat} {c : Array Value} {t : PT} (h : PValS w S c t) (hg : ¬ S g) (cs : Array Value) : PValS (w.setRow g cs) S c t :=
  h.at (by simp) fun b h1 h2 => ⟨setRow_other w g b cs (fun e => hg (e ▸ h1)), h1⟩
/-- A slice of parts. -/
def PSl (w : World) (S : Nat → Prop) (lv : Value) (l : List PT) : Prop := ∃ (ad : Option Addr) (cap blk : Nat) (cs : Nat → Array Value), lv = .slice ad l.length cap ∧ (l.length ≤ cap ∧ cap ≤ maxLen) ∧ (l ≠ [] → ad = some ⟨blk, 0, none⟩ ∧ S blk ∧ blk < w.heap.size) ∧
  (∀ j, j < l.length → ∀ i v, (cs j)[i]? = some v → w.cell? ⟨blk, 8 * j + i, none⟩ = some v) ∧ ∀ j (h : j < l.length), PValS w S (cs j) l[j]
theorem PSl.part {w : World} {S : Nat → Prop} {lv : Value} {l : List PT} (h : PSl w S lv l) (k : Nat) (p : Nat → Bool) (a b : Int) : PValS w S (partA k p a b lv) (.node k p a b l) := by
  obtain ⟨ad, cap, blk, cs, rfl, h0, h1, hc, hs⟩ := h
  exact .mk k p a b l ad cap blk cs h0 h1 hc hs
theorem PSl.nil (w : World) (S : Nat → Prop) : PSl w S (.slice none 0 0) [] := ⟨none, 0, 0, fun _ => #[], rfl, ⟨Nat.le_refl _, by simp [maxLen]⟩, fun h => absurd rfl h, fun j hj => by simp at hj, fun j hj => by simp at hj⟩
theorem PValS.leaf (w : World) (S : Nat → Prop) (k : Nat) (p : Nat → Bool) (a b : Int) : PValS w S (partA k p a b (.slice none 0 0)) (.node k p a b []) := (PSl.nil w S).part k p a b
theorem PVal.leaf (w : World) (lo k : Nat) (p : Nat → Bool) (a b : Int) : PVal w lo (partA k p a b (.slice none 0 0)) (.node k p a b []) := PValS.leaf w _ k p a b
theorem PSl.at {w w' : World} {S : Nat → Prop} {lv : Value} {l : List PT} (h : PSl w S lv l) (hz : w.heap.size ≤ w'.heap.size) (k : ∀ b, S b → b < w.heap.size → w'.heap[b]? = w.heap[b]?) : PSl w' S lv l := by
  obtain ⟨ad, cap, blk, cs, rfl, h0, h1, hc, hs⟩ := h
  refine ⟨ad, cap, blk, cs, rfl, h0, fun hn => ⟨(h1 hn).1, (h1 hn).2.1, Nat.lt_of_lt_of_le (h1 hn).2.2 hz⟩, ?_, fun j hj => (hs j hj).at hz fun b h1 h2 => ⟨k b h1 h2, h1⟩⟩
  intro j hj i v hv
  have hn : l ≠ [] := by rintro rfl; simp at hj
  have hb := (h1 hn).2
  rw [World.cell?_of_block (w := w) (k blk hb.1 hb.2)]
  exact hc j hj i v hv
theorem PSl.blw {w w' : World} {S : Nat → Prop} {lv : Value} {l : List PT} (h : PSl w S lv l) (k : Below w.heap.size w w') : PSl w' S lv l := h.at k.size fun b h1 h2 => k.block b h2

set_option maxRecDepth 100000 in
theorem stp_u (p : Nat → Bool) (w : World) :
    Calls Try.prog 26 #[setV p] w fun e w' => e = .returned (.agg (partA 1 p 0 0 (.slice none 0 0))) ∧ Below w.heap.size w w' := by
  go_enter Try.func26, Try.ntmps26
  go_wp2
  refine bodyPost_ret (v := .agg (partA 1 p 0 0 (.slice none 0 0))) (by simp [results, Try.results26, go_sem, *]) rfl ⟨rfl, ?_⟩
  repeat (first | (with_reducible exact Below.refl _ _) | (with_reducible refine Below.drew ?_) | (refine Below.setCell ?_ (by first | exact Nat.le_refl _ | (simp; done) | (simp; omega) | omega) _) | (refine Below.alloc ?_ (by first | exact Nat.le_refl _ | (simp; done) | (simp; omega) | omega) _) | (refine Below.trans ?_ (Below.mono (by assumption) (by first | exact Nat.le_refl _ | (simp; done) | (simp; omega) | omega))))
set_option maxRecDepth 100000 in
set_option maxHeartbeats 4000000 in
theorem tog_u {w : World} {S : Nat → Prop} {lv : Value} {l : List PT} (h : PSl w S lv l) (k : Nat) :
    Calls Try.prog 17 #[.int .i64 (k : Int), lv] w fun e w' => ∃ cs, e = .returned (.agg cs) ∧ PValS w' S cs (together k l) ∧ Below w.heap.size w w' := by
  have H := Lib.hid h
  obtain ⟨ad, cap, blk, cs, rfl, h0, h1, hc, hs⟩ := h
  rcases l with _ | ⟨t, _ | ⟨t2, r⟩⟩
  · have t0 : ((([] : List PT).length : Int) == 0) = true := rfl
    clear h1 hc hs
    go_enter Try.func17, Try.ntmps17
    go_wp2
    refine bodyPost_ret (v := .agg zeroPA) (by simp [results, Try.results17, go_sem, *]) rfl ?_
    refine ⟨_, rfl, ?_, ?_⟩
    · rw [← zero_part]; exact PValS.leaf _ _ _ _ _ _
    · repeat (first | (with_reducible exact Below.refl _ _) | (with_reducible refine Below.drew ?_) | (refine Below.setCell ?_ (by first | exact Nat.le_refl _ | (simp; done) | (simp; omega) | omega) _) | (refine Below.alloc ?_ (by first | exact Nat.le_refl _ | (simp; done) | (simp; omega) | omega) _) | (refine Below.trans ?_ (Below.mono (by assumption) (by first | exact Nat.le_refl _ | (simp; done) | (simp; omega) | omega))))
  · have t0 : ((([t] : List PT).length : Int) == 0) = false := rfl
    have t1 : ((([t] : List PT).length : Int) == 1) = true := rfl
    obtain ⟨rfl, hb1, hb2⟩ := h1 (by simp)
    have c := hc 0 (by simp)
    have hp := hs 0 (by simp)
    have HP : Hid (PValS w S (cs 0) t) := hp
    obtain ⟨k', p, a, b, ad', n', cap', e⟩ := hp.inv
    rw [e] at c HP
    have c0 := c 0 _ rfl
    have c1 := c 1 _ rfl
    have c2 := c 2 _ rfl
    have c3 := c 3 _ rfl
    have c4 := c 4 _ rfl
    have c5 := c 5 _ rfl
    have c6 := c 6 _ rfl
    have c7 := c 7 _ rfl
    clear c hc hs e hp h1
    simp only [Nat.mul_zero, Nat.zero_add, List.length_cons, List.length_nil] at *
    go_enter Try.func17, Try.ntmps17
    go_wp2
    refine bodyPost_ret (v := .agg (partA k' p a b (.slice ad' n' cap'))) (by simp [results, Try.results17, go_sem, *]) rfl ?_
    refine ⟨_, rfl, HP.out.blw ?_, ?_⟩
    · repeat (first | (with_reducible exact Below.refl _ _) | (with_reducible refine Below.drew ?_) | (refine Below.setCell ?_ (by first | exact Nat.le_refl _ | (simp; done) | (simp; omega) | omega) _) | (refine Below.alloc ?_ (by first | exact Nat.le_refl _ | (simp; done) | (simp; omega) | omega) _) | (refine Below.trans ?_ (Below.mono (by assumption) (by first | exact Nat.le_refl _ | (simp; done) | (simp; omega) | omega))))
    · repeat (first | (with_reducible exact Below.refl _ _) | (with_reducible refine Below.drew ?_) | (refine Below.setCell ?_ (by first | exact Nat.le_refl _ | (simp; done) | (simp; omega) | omega) _) | (refine Below.alloc ?_ (by first | exact Nat.le_refl _ | (simp; done) | (simp; omega) | omega) _) | (refine Below.trans ?_ (Below.mono (by assumption) (by first | exact Nat.le_refl _ | (simp; done) | (simp; omega) | omega))))
  · have t0 : (((t :: t2 :: r).length : Int) == 0) = false := by rw [beq_eq_false_iff_ne]; simp; omega
    have t1 : (((t :: t2 :: r).length : Int) == 1) = false := by rw [beq_eq_false_iff_ne]; simp; omega
    have e0 : together k (t :: t2 :: r) = .node k nonP 0 0 (t :: t2 :: r) := rfl
    rw [e0]
    clear h1 hc hs
    generalize t :: t2 :: r = L at *
    go_enter Try.func17, Try.ntmps17
    go_wp2
    refine bodyPost_ret (v := .agg #[.int .i64 (k : Int), .int .u64 0, .int .u64 0, .int .u64 0, .int .u64 0, .int .i64 0, .int .i64 0, .slice ad L.length cap]) (by simp [results, Try.results17, go_sem, *]) rfl ?_
    refine ⟨_, rfl, ?_, ?_⟩
    · rw [← zero_setp k 0 0 (.slice ad L.length cap)]
      refine (PSl.blw H.out ?_).part k nonP 0 0
      repeat (first | (with_reducible exact Below.refl _ _) | (with_reducible refine Below.drew ?_) | (refine Below.setCell ?_ (by first | exact Nat.le_refl _ | (simp; done) | (simp; omega) | omega) _) | (refine Below.alloc ?_ (by first | exact Nat.le_refl _ | (simp; done) | (simp; omega) | omega) _) | (refine Below.trans ?_ (Below.mono (by assumption) (by first | exact Nat.le_refl _ | (simp; done) | (simp; omega) | omega))))
    · repeat (first | (with_reducible exact Below.refl _ _) | (with_reducible refine Below.drew ?_) | (refine Below.setCell ?_ (by first | exact Nat.le_refl _ | (simp; done) | (simp; omega) | omega) _) | (refine Below.alloc ?_ (by first | exact Nat.le_refl _ | (simp; done) | (simp; omega) | omega) _) | (refine Below.trans ?_ (Below.mono (by assumption) (by first | exact Nat.le_refl _ | (simp; done) | (simp; omega) | omega))))
end Go.Proofs.Ytfmekmbdienbjaa
