/- A string turned into bytes; what the statement on zeros wants. -/
import Derived.Test.YtfecnogmjfmghaaDoorNumN
import Derived.Test.YtfecnogmjfmghaaDoorNumP
namespace Go.Proofs.YtfecnogmjfmghaaDoor
set_option linter.unusedSimpArgs false
set_option linter.unusedVariables false
set_option linter.unnecessarySimpa false
open Go.RowKit

/-- '[]byte(s)': how much room there is, and the world behind it. -/
def cvCap (W : World) (l : List UInt8) : Nat := grownCap W (S8 l).size 0 5
def cvW (W : World) (l : List UInt8) : World := W.drew.alloc (.cells (bytesRow (S8 l) (cvCap W l)) 5 ((bytesRow (S8 l) (cvCap W l)).size, (bytesRow (S8 l) (cvCap W l)).size + 1))
theorem run_cv (l : List UInt8) (W : World) : (convert 9 22 (.string (S8 l))).run Tryd.prog W = .ok (.slice (some ⟨W.heap.size, 0, none⟩) l.length (cvCap W l)) (cvW W l) := by
  rw [run_bytes_of_string W 9 22 5 (S8 l) Tryd.underlying9 Tryd.underlying22 Tryd.underlying5]
  unfold cvW cvCap
  rw [S8_size]
theorem cv_below (W : World) (l : List UInt8) : Below W.heap.size W (cvW W l) := (Below.refl _ _).drew.alloc (Nat.le_refl _) _
theorem cv_size (W : World) (l : List UInt8) : (cvW W l).heap.size = W.heap.size + 1 := by unfold cvW; simp
theorem cv_bs (W : World) (l : List UInt8) (hl : l.length ≤ maxLen) : BS (cvW W l) (.slice (some ⟨W.heap.size, 0, none⟩) l.length (cvCap W l)) l := by
  refine ⟨_, _, rfl, ?_, ?_, fun _ => ⟨W.heap.size, 0, rfl, by rw [cv_size]; omega, fun j hj => ?_⟩⟩
  · have := grownCap_ge W (S8 l).size 0 5
    rw [S8_size] at this
    unfold cvCap; rw [S8_size]; exact this
  · unfold cvCap; exact grownCap_le_maxLen _ _ _ _ (by rw [S8_size]; exact hl)
  · unfold cvW
    rw [show W.heap.size = W.drew.heap.size from rfl, World.cell?_alloc_mark, Nat.zero_add]
    unfold bytesRow
    rw [Array.getElem?_append_left (by rw [Array.size_map, S8_data]; simpa using hj), Array.getElem?_map, S8_data, List.getElem?_toArray, List.getElem?_eq_getElem hj, List.getD_eq_getElem?_getD, List.getElem?_eq_getElem hj]
    rfl

/-- Zeros ahead, and behind the last place. -/
theorem zeros_back {m : Nat} (hm : m < topN) (f k : Nat) : numZ (zer f ++ ((whoL m ++ ([46] ++ fraL m)) ++ zer k)) = (m : Int) ∧ numN (zer f ++ ((whoL m ++ ([46] ++ fraL m)) ++ zer k)) = (zer f ++ ((whoL m ++ ([46] ++ fraL m)) ++ zer k)).length := by
  have hmag := text_mag hm k
  have hW := who_dgt m
  have hF := fra_dgt m
  have hne := who_ne m
  generalize whoL m = W at *
  generalize fraL m = F at *
  have hp := parts_point (S := []) (W := zer f ++ W) (F := F ++ zer k) (R := []) (c := 46) (Or.inl rfl) ((zer_dgt f).app hW) (by simp [hne]) (hF.app (zer_dgt k)) rfl (by simp [isDgt, hd8])
  have e : zer f ++ ((W ++ ([46] ++ F)) ++ zer k) = [] ++ ((zer f ++ W) ++ ([46] ++ ((F ++ zer k) ++ []))) := by simp [List.append_assoc]
  have hwl : W.length ≠ 0 := fun h0 => hne (List.eq_nil_of_length_eq_zero h0)
  have hn : (zer f ++ W).length + (F ++ zer k).length ≠ 0 := by simp only [List.length_append]; omega
  have hv : valU (zer f ++ W) = valU W := by
    rw [valU_append]; unfold zer; rw [valU_zeros]; omega
  rw [e, hp.numZ hn, hp.numN hn]
  refine ⟨?_, by simp; omega⟩
  unfold magOf at hmag ⊢
  rw [hv, hmag]
  simp
def ptB (l : List UInt8) : Bool := l.any (fun c => decide (c.toNat = 46))
theorem ptB_dgt {l : List UInt8} (h : allD l) : ptB l = false := by
  unfold ptB
  rw [List.any_eq_false]
  intro c hc
  have := h c hc
  unfold isDgt at this
  simp; omega
theorem ptB_text {m : Nat} (h : goodB false m = true) : ptB (textL false m) = !(fraL m).isEmpty := by
  rw [text_eq h]
  have hW := ptB_dgt (who_dgt m)
  generalize whoL m = W at *
  generalize fraL m = F at *
  unfold ptB at *
  by_cases hf : F = []
  · subst hf; simp [hW]
  · simp [hf, hW]
theorem text_point {m : Nat} (h : goodB false m = true) : (if ptB (textL false m) = true then textL false m else textL false m ++ [46]) = whoL m ++ ([46] ++ fraL m) := by
  rw [ptB_text h, text_eq h]
  generalize whoL m = W at *
  generalize fraL m = F at *
  by_cases hf : F = []
  · subst hf; simp
  · simp [hf]
theorem ptB_take {l : List UInt8} {k : Nat} (hk : k < l.length) : ptB (l.take (k + 1)) = (ptB (l.take k) || decide ((l.getD k 0).toNat = 46)) := by
  rw [take_u8 l hk]; unfold ptB; simp
end Go.Proofs.YtfecnogmjfmghaaDoor
