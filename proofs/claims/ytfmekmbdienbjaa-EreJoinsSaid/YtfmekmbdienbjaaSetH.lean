/- The classes by their names; the contracts of Class, of bytes.Index, and of class. -/
import Derived.Test.YtfmekmbdienbjaaSetG
import Derived.Test.YtfmekmbdienbjaaSetE1
import Derived.Test.YtfmekmbdienbjaaSetE2
import Derived.Test.YtfmekmbdienbjaaSetE3
import Derived.Test.YtfmekmbdienbjaaSetE4
import Derived.Test.YtfmekmbdienbjaaSetE5
import Derived.Test.YtfmekmbdienbjaaSetE6
import Derived.Test.YtfmekmbdienbjaaSetE7
import Derived.Test.YtfmekmbdienbjaaSetE8
import Derived.Test.YtfmekmbdienbjaaShelf
import Derived.Lib.IndexMore
import Derived.WalkSmall
namespace Go.Proofs.Ytfmekmbdienbjaa
set_option linter.unusedSimpArgs false
set_option linter.unusedVariables false
set_option linter.unnecessarySimpa false
open Go.RowKit

/-- The class of a name. -/
def clsL (l : List UInt8) : Option (Nat → Bool) :=
  if l = [97, 108, 110, 117, 109] then some ((fun x => ((fun x => (rngP 48 57) x || (rngP 97 122) x)) x || (rngP 65 90) x)) else
  if l = [97, 108, 112, 104, 97] then some ((fun x => ((fun x => (nonP) x || (rngP 97 122) x)) x || (rngP 65 90) x)) else
  if l = [117, 112, 112, 101, 114] then some ((fun x => (nonP) x || (rngP 65 90) x)) else
  if l = [108, 111, 119, 101, 114] then some (rngP 97 122) else
  if l = [120, 100, 105, 103, 105, 116] then some ((fun x => (rgsF nonP [65, 70, 97, 102]) x || (rngP 48 57) x)) else
  if l = [100, 105, 103, 105, 116] then some ((fun x => (nonP) x || (rngP 48 57) x)) else
  if l = [115, 112, 97, 99, 101] then some ((fun x => (rngP 10 13) x || (rgsF nonP [9, 9, 32, 32]) x)) else
  if l = [98, 108, 97, 110, 107] then some ((fun x => (nonP) x || (rgsF nonP [9, 9, 32, 32]) x)) else
  if l = [112, 114, 105, 110, 116] then some ((fun x => (rngP 32 32) x || (rngP 33 126) x)) else
  if l = [103, 114, 97, 112, 104] then some ((fun x => (nonP) x || (rngP 33 126) x)) else
  if l = [112, 117, 110, 99, 116] then some (rgsF nonP [33, 47, 58, 64, 91, 96, 123, 126]) else
  if l = [99, 110, 116, 114, 108] then some (rgsF nonP [0, 31, 127, 127]) else
  none
theorem cls_u (l : List UInt8) (w : World) :
    Calls Try.prog 44 #[.string (S8 l)] w fun e w' => e = .returned (.tuple #[setV ((clsL l).getD nonP), .bool (clsL l).isSome]) ∧ Below w.heap.size w w' := by
  by_cases h0 : l = [97, 108, 110, 117, 109]
  · have e : clsL l = some ((fun x => ((fun x => (rngP 48 57) x || (rngP 97 122) x)) x || (rngP 65 90) x)) := by unfold clsL; rw [if_pos h0]
    rw [e]; exact class_alnum w (S8 l) (by rw [S8_list, h0])
  by_cases h1 : l = [97, 108, 112, 104, 97]
  · have e : clsL l = some ((fun x => ((fun x => (nonP) x || (rngP 97 122) x)) x || (rngP 65 90) x)) := by unfold clsL; rw [if_neg h0, if_pos h1]
    rw [e]; exact class_alpha w (S8 l) (by rw [S8_list, h1])
  by_cases h2 : l = [117, 112, 112, 101, 114]
  · have e : clsL l = some ((fun x => (nonP) x || (rngP 65 90) x)) := by unfold clsL; rw [if_neg h0, if_neg h1, if_pos h2]
    rw [e]; exact class_upper w (S8 l) (by rw [S8_list, h2])
  by_cases h3 : l = [108, 111, 119, 101, 114]
  · have e : clsL l = some (rngP 97 122) := by unfold clsL; rw [if_neg h0, if_neg h1, if_neg h2, if_pos h3]
    rw [e]; exact class_lower w (S8 l) (by rw [S8_list, h3])
  by_cases h4 : l = [120, 100, 105, 103, 105, 116]
  · have e : clsL l = some ((fun x => (rgsF nonP [65, 70, 97, 102]) x || (rngP 48 57) x)) := by unfold clsL; rw [if_neg h0, if_neg h1, if_neg h2, if_neg h3, if_pos h4]
    rw [e]; exact class_xdigit w (S8 l) (by rw [S8_list, h4])
  by_cases h5 : l = [100, 105, 103, 105, 116]
  · have e : clsL l = some ((fun x => (nonP) x || (rngP 48 57) x)) := by unfold clsL; rw [if_neg h0, if_neg h1, if_neg h2, if_neg h3, if_neg h4, if_pos h5]
    rw [e]; exact class_digit w (S8 l) (by rw [S8_list, h5])
  by_cases h6 : l = [115, 112, 97, 99, 101]
  · have e : clsL l = some ((fun x => (rngP 10 13) x || (rgsF nonP [9, 9, 32, 32]) x)) := by unfold clsL; rw [if_neg h0, if_neg h1, if_neg h2, if_neg h3, if_neg h4, if_neg h5, if_pos h6]
    rw [e]; exact class_space w (S8 l) (by rw [S8_list, h6])
  by_cases h7 : l = [98, 108, 97, 110, 107]
  · have e : clsL l = some ((fun x => (nonP) x || (rgsF nonP [9, 9, 32, 32]) x)) := by unfold clsL; rw [if_neg h0, if_neg h1, if_neg h2, if_neg h3, if_neg h4, if_neg h5, if_neg h6, if_pos h7]
    rw [e]; exact class_blank w (S8 l) (by rw [S8_list, h7])
  by_cases h8 : l = [112, 114, 105, 110, 116]
  · have e : clsL l = some ((fun x => (rngP 32 32) x || (rngP 33 126) x)) := by unfold clsL; rw [if_neg h0, if_neg h1, if_neg h2, if_neg h3, if_neg h4, if_neg h5, if_neg h6, if_neg h7, if_pos h8]
    rw [e]; exact class_print w (S8 l) (by rw [S8_list, h8])
  by_cases h9 : l = [103, 114, 97, 112, 104]
  · have e : clsL l = some ((fun x => (nonP) x || (rngP 33 126) x)) := by unfold clsL; rw [if_neg h0, if_neg h1, if_neg h2, if_neg h3, if_neg h4, if_neg h5, if_neg h6, if_neg h7, if_neg h8, if_pos h9]
    rw [e]; exact class_graph w (S8 l) (by rw [S8_list, h9])
  by_cases h10 : l = [112, 117, 110, 99, 116]
  · have e : clsL l = some (rgsF nonP [33, 47, 58, 64, 91, 96, 123, 126]) := by unfold clsL; rw [if_neg h0, if_neg h1, if_neg h2, if_neg h3, if_neg h4, if_neg h5, if_neg h6, if_neg h7, if_neg h8, if_neg h9, if_pos h10]
    rw [e]; exact class_punct w (S8 l) (by rw [S8_list, h10])
  by_cases h11 : l = [99, 110, 116, 114, 108]
  · have e : clsL l = some (rgsF nonP [0, 31, 127, 127]) := by unfold clsL; rw [if_neg h0, if_neg h1, if_neg h2, if_neg h3, if_neg h4, if_neg h5, if_neg h6, if_neg h7, if_neg h8, if_neg h9, if_neg h10, if_pos h11]
    rw [e]; exact class_cntrl w (S8 l) (by rw [S8_list, h11])
  have e : clsL l = none := by unfold clsL; rw [if_neg h0, if_neg h1, if_neg h2, if_neg h3, if_neg h4, if_neg h5, if_neg h6, if_neg h7, if_neg h8, if_neg h9, if_neg h10, if_neg h11]
  rw [e]
  refine class_none w (S8 l) fun N hN => ?_
  rw [S8_list]
  simp only [List.mem_cons, List.not_mem_nil, or_false] at hN
  rcases hN with rfl | rfl | rfl | rfl | rfl | rfl | rfl | rfl | rfl | rfl | rfl | rfl
  all_goals assumption

/-- The library's own variable holds some number. -/
def HM (w : World) : Prop := ∃ m : Int, w.cell? ⟨0, 0, none⟩ = some (.int .i64 m) ∧ 0 < w.heap.size
theorem HM.on {w w' : World} (h : HM w) (k : Below w.heap.size w w') : HM w' := by
  obtain ⟨m, e, hl⟩ := h
  exact ⟨m, (k.cell (p := ⟨0, 0, none⟩) hl).trans e, Nat.lt_of_lt_of_le hl k.size⟩
def ints8 (l : List UInt8) : List Int := l.map fun x => ((x.toNat : Nat) : Int)
theorem ints8_of (l : List UInt8) : Lib.bytesOf (ints8 l) = l := by
  unfold ints8 Lib.bytesOf
  rw [List.map_map]
  conv => rhs; rw [← List.map_id l]
  congr 1
  funext x
  simp
theorem ints8_get (l : List UInt8) {i : Nat} (h : i < l.length) : (ints8 l).getD i 0 = (((l.getD i 0).toNat : Nat) : Int) := by
  unfold ints8
  rw [List.getD_eq_getElem?_getD, List.getD_eq_getElem?_getD, List.getElem?_map, List.getElem?_eq_getElem h]; rfl
theorem ints8_lt (l : List UInt8) : ∀ x ∈ ints8 l, 0 ≤ x ∧ x < 256 := by
  intro x hx
  unfold ints8 at hx
  obtain ⟨y, _, rfl⟩ := List.mem_map.1 hx
  have := y.toNat_lt
  omega
theorem idx_v {v v' : Value} {l l' : List UInt8} {w : World} (h : BS w v l) (h' : BS w v' l') (hl : l.length < 4294967281) (hl2 : 2 ≤ l'.length) (hl3 : l'.length ≤ 1000) (hM : HM w) :
    Calls Try.prog 43 #[v, v'] w fun e w' => e = .returned (.int .i64 (Lib.index l l')) ∧ Below w.heap.size w w' := by
  obtain ⟨p, c, rfl, hlc, hcm, hU⟩ := h
  obtain ⟨p', c', rfl, hlc', hcm', hU'⟩ := h'
  obtain ⟨m, hm, _⟩ := hM
  by_cases hs : l.length < l'.length
  · refine (Try.bytes_Index_longer p p' l.length c l'.length c' w hl2 hs (by omega)).mono ?_
    rintro e w' ⟨rfl, rfl⟩
    refine ⟨?_, Below.refl _ _⟩
    rw [Lib.index_long (by omega) (by rintro rfl; omega)]
  · obtain ⟨b, o, rfl, _, hc⟩ := hU (by rintro rfl; exact hs (Nat.lt_of_lt_of_le (by decide) hl2))
    obtain ⟨b', o', rfl, _, hc'⟩ := hU' (by rintro rfl; simp at hl2)
    have := Try.bytes_Index_at ⟨b, o, none⟩ ⟨b', o', none⟩ l.length c l'.length c' (ints8 l) (ints8 l') m w (by simp [ints8]) (by simp [ints8]) (ints8_lt l) (ints8_lt l')
      (fun i hi => by rw [add_lit', hc i hi, ints8_get l hi]) (fun i hi => by rw [add_lit', hc' i hi, ints8_get l' hi]) hlc hl (by omega) hm
    rw [ints8_of, ints8_of] at this
    refine this.mono ?_
    rintro e w' ⟨rfl, q, rfl⟩
    exact ⟨rfl, below_drewN (Below.refl _ _) q⟩
end Go.Proofs.Ytfmekmbdienbjaa
