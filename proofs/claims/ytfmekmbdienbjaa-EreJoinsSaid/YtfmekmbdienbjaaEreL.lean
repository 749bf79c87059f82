/- Layer 4: a list of parts that a call builds by append. -/
import Derived.Test.YtfmekmbdienbjaaEreF
import Derived.Deep.AppendLies
namespace Go.Proofs.Ytfmekmbdienbjaa
set_option linter.unusedSimpArgs false
set_option linter.unusedVariables false
set_option linter.unnecessarySimpa false
open Go.RowKit

theorem part_zinfo : (Try.prog.info? 29).map (fun i => (i.zero, i.size, i.bytes)) = some (some (.agg zeroPA), 8, 80) := by kernel_rfl
theorem part_parts : ∃ i, Try.prog.info? 29 = some i ∧ i.zero = some (.agg zeroPA) ∧ i.size = 8 ∧ i.bytes = 80 := by
  have h := part_zinfo
  cases hq : Try.prog.info? 29 with
  | none => rw [hq] at h; cases h
  | some i =>
    rw [hq] at h
    simp only [Option.map_some, Option.some.injEq, Prod.mk.injEq] at h
    exact ⟨i, rfl, h.1, h.2.1, h.2.2⟩
/-- The value av is a list of the call's own, from block BB on, that reads as the parts acc; their lists lie from BB on, and not in its own block. -/
def Acc (w : World) (BB : Nat) (av : Value) (acc : List PT) : Prop := ∃ (xs : List Value) (css : Nat → Array Value), w.ownsRow BB 29 8 av acc.length xs ∧ (∀ j, j < acc.length → ∀ i v, (css j)[i]? = some v → xs[8 * j + i]? = some v) ∧ ∀ j (h : j < acc.length), PValS w (fun b => BB ≤ b ∧ some b ≠ av.ownBlock) (css j) acc[j]
theorem Acc.nil (w : World) (BB : Nat) : Acc w BB (.slice none 0 0) [] := ⟨[], fun _ => #[], ⟨rfl, Or.inl ⟨rfl, rfl⟩⟩, fun j hj => by simp at hj, fun j hj => by simp at hj⟩
theorem Acc.at {w w' : World} {BB : Nat} {av : Value} {acc : List PT} (h : Acc w BB av acc) (hz : w.heap.size ≤ w'.heap.size) (k : ∀ b, BB ≤ b → b < w.heap.size → w'.heap[b]? = w.heap[b]?) : Acc w' BB av acc := by
  obtain ⟨xs, css, h1, h2, h3⟩ := h
  refine ⟨xs, css, ⟨h1.1, ?_⟩, h2, fun j hj => (h3 j hj).at hz fun b h4 h5 => ⟨k b h4.1 h5, h4⟩⟩
  rcases h1.2 with h4 | ⟨g, cap, cur, hv, hg, hh, r⟩
  · exact Or.inl h4
  · exact Or.inr ⟨g, cap, cur, hv, hg, by rw [k g hg (Array.getElem?_eq_some_iff.1 hh).1]; exact hh, r⟩
theorem Acc.on {w w' : World} {rb BB : Nat} {av : Value} {acc : List PT} (h : Acc w BB av acc) (k : Kept rb w.heap.size w w') (hr : rb < BB) : Acc w' BB av acc := h.at k.size fun b h1 h2 => k.block b h2 (by omega)
theorem Acc.blw {w w' : World} {BB : Nat} {av : Value} {acc : List PT} (h : Acc w BB av acc) (k : Below w.heap.size w w') : Acc w' BB av acc := h.at k.size fun b h1 h2 => k.block b h2
theorem Acc.owns {w : World} {BB : Nat} {av : Value} {acc : List PT} (h : Acc w BB av acc) : ∃ xs, w.ownsRow BB 29 8 av acc.length xs := by
  obtain ⟨xs, css, h1, _⟩ := h; exact ⟨xs, h1⟩
theorem Acc.val {w : World} {BB : Nat} {av : Value} {acc : List PT} (h : Acc w BB av acc) : ∃ ad cap, av = .slice ad acc.length cap := by
  obtain ⟨xs, css, h1, _⟩ := h
  rcases h1.2 with ⟨rfl, h0⟩ | ⟨g, cap, cur, rfl, _⟩
  · exact ⟨none, 0, by rw [h0]⟩
  · exact ⟨_, _, rfl⟩
theorem Acc.sl {w : World} {BB : Nat} {av : Value} {acc : List PT} (h : Acc w BB av acc) : PSl w (Ge BB) av acc := by
  obtain ⟨xs, css, h1, h2, h3⟩ := h
  rcases h1.2 with ⟨rfl, h0⟩ | ⟨g, cap, cur, rfl, hg, hh, h4, h5, h6, h7⟩
  · obtain rfl : acc = [] := List.length_eq_zero_iff.1 h0
    exact PSl.nil w _
  · refine ⟨_, cap, g, css, rfl, ⟨h4, h5⟩, fun _ => ⟨rfl, hg, (Array.getElem?_eq_some_iff.1 hh).1⟩, ?_, fun j hj => (h3 j hj).imp fun b h8 _ => h8.1⟩
    intro j hj i v hv
    have h8 := h1.cells (g := g) rfl (8 * j + i) v (h2 j hj i v hv)
    have e : (⟨g, 0, none⟩ : Addr).add (8 * j + i) = ⟨g, 8 * j + i, none⟩ := by unfold Addr.add; split <;> simp_all
    rwa [e] at h8
/-- One part more. -/
theorem Acc.push {w w' : World} {BB : Nat} {av : Value} {acc : List PT} {t : PT} {cs : Array Value} (h : Acc w BB av acc) (hp : PValS w (fun b => BB ≤ b ∧ some b ≠ av.ownBlock) cs t) {xs : List Value} (hx : w.ownsRow BB 29 8 av acc.length xs)
    {g cap : Nat} (hown : w'.ownsRow BB 29 8 (.slice (some ⟨g, 0, none⟩) (acc.length + 1) cap) (acc.length + 1) (xs ++ cs.toList)) (hgr : w.grownBy w' av.ownBlock) (hat : av.ownBlock = some g ∨ g = w.heap.size) :
    Acc w' BB (.slice (some ⟨g, 0, none⟩) (acc.length + 1) cap) (acc ++ [t]) := by
  obtain ⟨xs', css, h1, h2, h3⟩ := h
  obtain rfl : xs' = xs := by
    rcases h1.2 with ⟨rfl, h0⟩ | ⟨g1, cap1, cur1, rfl, hg1, hh1, _, _, _, h7⟩
    · have e1 := h1.1
      have e2 := hx.1
      rw [h0] at e1 e2
      have a1 : xs' = [] := List.length_eq_zero_iff.1 (by simpa using e1)
      have a2 : xs = [] := List.length_eq_zero_iff.1 (by simpa using e2)
      rw [a1, a2]
    · rcases hx.2 with ⟨e, _⟩ | ⟨g2, cap2, cur2, e, _, hh2, _, _, _, h8⟩
      · cases e
      · injection e with e1 _ _
        injection e1 with e1
        injection e1 with e1 _ _
        subst e1
        have e3 := hh1.symm.trans hh2
        simp only [Option.some.injEq, Obj.cells.injEq] at e3
        rw [← h7, ← h8, e3.1]
  have hlx : xs'.length = acc.length * 8 := hx.1
  have keep : ∀ b, (BB ≤ b ∧ some b ≠ av.ownBlock) → b < w.heap.size → w'.heap[b]? = w.heap[b]? ∧ (BB ≤ b ∧ some b ≠ (Value.slice (some ⟨g, 0, none⟩) (acc.length + 1) cap).ownBlock) := by
    intro b hb hlt
    refine ⟨hgr.block b hlt hb.2, hb.1, ?_⟩
    show some b ≠ some g
    intro e
    injection e with e
    subst e
    rcases hat with h9 | h9
    · exact hb.2 h9.symm
    · omega
  refine ⟨xs' ++ cs.toList, fun j => if j < acc.length then css j else cs, by simpa using hown, ?_, ?_⟩
  · intro j hj i v hv
    simp only [List.length_append, List.length_cons, List.length_nil] at hj
    by_cases hjl : j < acc.length
    · simp only [hjl, if_true] at hv
      have h9 := h2 j hjl i v hv
      have h10 : 8 * j + i < xs'.length := by
        rcases Nat.lt_or_ge (8 * j + i) xs'.length with h | h
        · exact h
        · rw [List.getElem?_eq_none h] at h9; cases h9
      rw [List.getElem?_append_left h10]; exact h9
    · simp only [hjl, if_false] at hv
      have hj9 : j = acc.length := by omega
      rw [List.getElem?_append_right (by omega), hlx, hj9, show 8 * acc.length + i - acc.length * 8 = i by omega, Array.getElem?_toList]
      exact hv
  · intro j hj
    simp only [List.length_append, List.length_cons, List.length_nil] at hj
    by_cases hjl : j < acc.length
    · simp only [hjl, if_true]
      rw [List.getElem_append_left hjl]
      exact (h3 j hjl).at hgr.size keep
    · simp only [hjl, if_false]
      have hj9 : j = acc.length := by omega
      subst hj9
      rw [List.getElem_append_right (Nat.le_refl _)]
      simp only [Nat.sub_self, List.getElem_cons_zero]
      exact hp.at hgr.size keep
end Go.Proofs.Ytfmekmbdienbjaa
