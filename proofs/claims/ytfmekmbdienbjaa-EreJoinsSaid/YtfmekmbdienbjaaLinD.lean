/- What wp_region_keep's macros want for blocks of four cells. -/
import Derived.Test.YtfmekmbdienbjaaLin
namespace Go.Proofs.Ytfmekmbdienbjaa
open Go.RowKit
theorem size4 {cs : Array Value} (h : cs.size = 4) : ∃ a b c d, cs = #[a, b, c, d] := by
  rcases cs with ⟨_ | ⟨a, _ | ⟨b, _ | ⟨c, _ | ⟨d, _ | ⟨e, l⟩⟩⟩⟩⟩⟩ <;> simp at h
  exact ⟨a, b, c, d, rfl⟩
theorem Lies.put4 {w : World} {b : Nat} {T : TypeId} {c0 c1 c2 c3 : Value} (h : Lies w b T #[c0, c1, c2, c3]) (x y z u : Value) :
    Lies ((((w.setCell ⟨b, 0, none⟩ x).setCell ⟨b, 1, none⟩ y).setCell ⟨b, 2, none⟩ z).setCell ⟨b, 3, none⟩ u) b T #[x, y, z, u] := by
  have := (((h.put 0 x).put 1 y).put 2 z).put 3 u
  simpa using this
theorem Lies.cells4 {w : World} {b : Nat} {T : TypeId} {c0 c1 c2 c3 : Value} (h : Lies w b T #[c0, c1, c2, c3]) : w.cell? ⟨b, 0, none⟩ = some c0 ∧ w.cell? ⟨b, 1, none⟩ = some c1 ∧ w.cell? ⟨b, 2, none⟩ = some c2 ∧ w.cell? ⟨b, 3, none⟩ = some c3 ∧
    w.frozen? ⟨b, 0, none⟩ = false ∧ w.frozen? ⟨b, 1, none⟩ = false ∧ w.frozen? ⟨b, 2, none⟩ = false ∧ w.frozen? ⟨b, 3, none⟩ = false := ⟨by rw [h.cell]; rfl, by rw [h.cell]; rfl, by rw [h.cell]; rfl, by rw [h.cell]; rfl, h.free 0, h.free 1, h.free 2, h.free 3⟩
theorem NewR.far4 {B : Nat} {T : TypeId} {n : Nat} {v v' : Value} {w : World} {g : Nat} (h : NewR B T n v w) (hv' : v' = .pointer (some ⟨g, 0, none⟩)) (hn : v ≠ v') (x y z u : Value) :
    NewR B T n v ((((w.setCell ⟨g, 0, none⟩ x).setCell ⟨g, 1, none⟩ y).setCell ⟨g, 2, none⟩ z).setCell ⟨g, 3, none⟩ u) := by
  obtain ⟨b, cs, e, hb, hs, hl⟩ := h
  have hne := blk_ne e hv' hn
  exact ⟨b, cs, e, hb, hs, (((hl.far (p := ⟨g, 0, none⟩) hne x).far (p := ⟨g, 1, none⟩) hne y).far (p := ⟨g, 2, none⟩) hne z).far (p := ⟨g, 3, none⟩) hne u⟩
theorem HasR.far4 {T : TypeId} {cs : Array Value} {v v' : Value} {w : World} {g : Nat} (h : HasR v T cs w) (hv' : v' = .pointer (some ⟨g, 0, none⟩)) (hn : v ≠ v') (x y z u : Value) :
    HasR v T cs ((((w.setCell ⟨g, 0, none⟩ x).setCell ⟨g, 1, none⟩ y).setCell ⟨g, 2, none⟩ z).setCell ⟨g, 3, none⟩ u) := by
  obtain ⟨b, e, hl⟩ := h
  have hne := blk_ne e hv' hn
  exact ⟨b, e, (((hl.far (p := ⟨g, 0, none⟩) hne x).far (p := ⟨g, 1, none⟩) hne y).far (p := ⟨g, 2, none⟩) hne z).far (p := ⟨g, 3, none⟩) hne u⟩
end Go.Proofs.Ytfmekmbdienbjaa
