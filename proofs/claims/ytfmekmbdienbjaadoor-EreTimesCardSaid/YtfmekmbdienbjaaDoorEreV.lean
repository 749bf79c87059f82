/- The statement EreTimes: errors.As on a variable just laid; its walk. -/
import Derived.Test.YtfmekmbdienbjaaDoorEreT
import Derived.Test.YtfmekmbdienbjaaDoorSetP
import Derived.Test.YtfmekmbdienbjaaDoorOpenHE
namespace Go.Proofs.YtfmekmbdienbjaaDoor
set_option linter.unusedSimpArgs false
set_option linter.unusedVariables false
set_option linter.unnecessarySimpa false
open Go.RowKit

set_option maxRecDepth 100000 in
set_option maxHeartbeats 4000000 in
theorem as_own (b : Nat) (w : World) (hE : HE w) :
    Calls Tryd.prog 15 #[.iface 50 (.pointer (some ⟨b, 0, none⟩)), .iface 52 (.pointer (some ⟨w.heap.size, 0, none⟩))] (w.alloc (.cells #[.pointer none] 50)) fun ev w' => ev = .returned (.bool true) ∧ Below w.heap.size w w' ∧ w'.cell? ⟨w.heap.size, 0, none⟩ = some (.pointer (some ⟨b, 0, none⟩)) := by
  have hB1 : Below w.heap.size w (w.alloc (.cells #[.pointer none] 50)) := (Below.refl _ _).alloc (Nat.le_refl _) _
  have H := as_hit ⟨b, 0, none⟩ ⟨w.heap.size, 0, none⟩ (.pointer none) (w.alloc (.cells #[.pointer none] 50)) (hE.on hB1).1 (by simp) (by simp)
  have HW : ∀ u, u = (((((w.alloc (.cells #[.pointer none] 50)).alloc (.cells #[.pointer (some ⟨w.heap.size, 0, none⟩)] 52)).alloc (.cells #[hnd 52, .pointer (some ⟨(w.alloc (.cells #[.pointer none] 50)).heap.size, 0, none⟩), .int .u64 150] 82)).alloc (.cells #[hnd 52, .pointer (some ⟨(w.alloc (.cells #[.pointer none] 50)).heap.size, 0, none⟩), .int .u64 150] 82)).alloc (.cells #[.pointer (some ⟨b, 0, none⟩)] 50)).setCell ⟨w.heap.size, 0, none⟩ (.pointer (some ⟨b, 0, none⟩)) →
      Below w.heap.size w u ∧ u.cell? ⟨w.heap.size, 0, none⟩ = some (.pointer (some ⟨b, 0, none⟩)) := by
    intro u hu
    subst hu
    refine ⟨?_, ?_⟩
    · refine Below.setCell (B := w.heap.size) ?_ (by show w.heap.size ≤ w.heap.size; exact Nat.le_refl _) _
      refine Below.alloc ?_ (by simp; omega) _
      refine Below.alloc ?_ (by simp; omega) _
      refine Below.alloc ?_ (by simp; omega) _
      refine Below.alloc hB1 (by simp) _
    · refine cell_same ⟨.pointer none, ?_⟩
      rw [World.cell?_alloc_lt _ _ ⟨w.heap.size, 0, none⟩ (by simp; omega), World.cell?_alloc_lt _ _ ⟨w.heap.size, 0, none⟩ (by simp; omega), World.cell?_alloc_lt _ _ ⟨w.heap.size, 0, none⟩ (by simp; omega), World.cell?_alloc_lt _ _ ⟨w.heap.size, 0, none⟩ (by simp)]
      simp
  refine H.mono ?_
  rintro e w' ⟨he, hw⟩
  exact ⟨he, HW w' hw⟩

/-- What Parse tells of an interval, wanted alone. -/
def TimP (w : World) (R : ER) (cs : Array Value) (ev : Value) : Prop := match R with
  | .ok (.node k p a b l) _ => ev = .nilIface ∧ ∃ ad cap, cs = partA k p a b (.slice ad l.length cap)
  | .bad a c => cs = zeroPA ∧ ∃ b, ev = .iface 50 (.pointer (some ⟨b, 0, none⟩)) ∧ FRow w b a c
theorem tim_cv {l : List UInt8} (hl : l.length ≤ 1000) (R : ER) (hR : RunE l (.exp 0 0 []) R) (R' : ER) (hR' : topR l R = R') (W : World) (hM : HM W) :
    Calls Tryd.prog 13 #[.slice (some ⟨W.heap.size, 0, none⟩) l.length (cvCap W l)] (cvW W l) fun e w' => ∃ cs ev, e = .returned (.tuple #[.agg cs, ev]) ∧ TimP w' R' cs ev ∧ Below W.heap.size W w' := by
  have hb := cv_below W l
  refine (par_u (cv_bs W l (by simp only [maxLen]; omega)) (hM.on hb) (by omega) R hR).mono ?_
  rintro e w' ⟨cs, ev, rfl, ho, hb2⟩
  rw [hR'] at ho
  refine ⟨cs, ev, rfl, ?_, hb.trans (hb2.mono hb.size)⟩
  cases R' with
  | bad a c => obtain ⟨h1, b, h2, h3, h4⟩ := ho; exact ⟨h1, b, h2, h4⟩
  | ok t n =>
    obtain ⟨h1, h2⟩ := ho
    cases h2 with
    | mk k p a b l ad cap blk css h0 h3 hc hs => exact ⟨h1, ad, cap, rfl⟩
theorem tmL_len (m : Nat) (o : Option Nat) : (tmL m o).length ≤ 10 := by cases o <;> simp [tmL, d3]
theorem tm_top_ok {m : Nat} {o : Option Nat} {t : PT} : topR (tmL m o) (.ok t (tmL m o).length) = .ok t (tmL m o).length := by
  have := tmL_len m o
  unfold topR; rw [if_neg (by omega)]
  show (if _ then _ else _) = _
  rw [if_neg (by omega)]
theorem tm_top_bad {m : Nat} {o : Option Nat} : topR (tmL m o) (.bad 1 5) = .bad 1 5 := by
  have := tmL_len m o
  unfold topR; rw [if_neg (by omega)]
end Go.Proofs.YtfmekmbdienbjaaDoor
