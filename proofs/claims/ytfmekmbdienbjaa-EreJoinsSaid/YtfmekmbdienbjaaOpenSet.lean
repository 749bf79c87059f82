/- Sets that come in as arguments, opened and shut; the library's variable out of the world's shape. -/
import Derived.Test.YtfmekmbdienbjaaSetH
import Derived.Test.YtfmekmbdienbjaaRows
import Derived.HandedShaped
import Derived.ProofKit
import Derived.OpenShut
import Derived.Lib.SmallJoins
import Derived.Laws.IdiomArrays
import Derived.Carry
namespace Go.Proofs.Ytfmekmbdienbjaa
set_option linter.unusedSimpArgs false
set_option linter.unusedVariables false
open Go.ChangeShapes Go.WideShapes Go.ChangeAt Go.RowKit Go.Joins

theorem own : ownKnob Try.prog.godebug = none := by kernel_rfl
set_option maxRecDepth 100000 in
theorem laidOut : laidOutB Try.prog = true := by kernel_rfl
theorem setCells : Try.prog.cellsOf 26 = 4 := by kernel_rfl
theorem u64Cells : Try.prog.cellsOf 24 = 1 := by kernel_rfl
theorem hm_shape {w : World} (h : w.ShapedOpen Try.prog) : HM w := by
  obtain ⟨m, hm⟩ := Try.laysM185.s1_3 w h
  exact ⟨m, hm, World.block_lt_of_cell? _ _ hm⟩
theorem set_under : Try.prog.underlying 26 = some (.array 4 24) := by kernel_rfl
theorem size4' {cs : Array Value} (h : cs.size = 4) : ∃ a b c d, cs = #[a, b, c, d] := by
  rcases cs with ⟨_ | ⟨a, _ | ⟨b, _ | ⟨c, _ | ⟨d, _ | ⟨e, l⟩⟩⟩⟩⟩⟩ <;> simp at h
  exact ⟨a, b, c, d, rfl⟩
set_option maxRecDepth 100000 in
theorem open_set {H : Type} {enc : TypeId × Value → H} {w : World} {base : Nat} {spare : Nat → Bool} {held : Bool} {r : Reach} {b0 : Nat} {v : Value} {d : DataW H} {p : List MemPlace}
    (hv : Value.okWide Try.prog w r b0 26 v) (h : DataW.Trod enc Try.prog w base spare held 26 v d p) :
    ∃ P : Nat → Bool, v = setV P ∧ p = [] ∧ ∀ (w' : World) (base' : Nat) (spare' : Nat → Bool) (held' : Bool), DataW.Trod enc Try.prog w' base' spare' held' 26 v d [] := by
  obtain ⟨cs, rfl, hsz, _⟩ : ∃ cs, v = .agg cs ∧ cs.size = Try.prog.cellsOf 26 ∧ Row.okWide Try.prog w r b0 26 cs := by
    simpa [Value.okWide, set_under] using hv
  rw [setCells] at hsz
  obtain ⟨c0, c1, c2, c3, rfl⟩ := size4' hsz
  obtain ⟨fuel, hf⟩ := h
  obtain ⟨y0, y1, y2, y3, m, hx, hy0, hy1, hy2, hy3⟩ := trod_array4 set_under u64Cells hf
  obtain ⟨x0, e0, rfl, w0⟩ := DataW.trod_int Try.underlying24 hy0
  obtain ⟨x1, e1, rfl, w1⟩ := DataW.trod_int Try.underlying24 hy1
  obtain ⟨x2, e2, rfl, w2⟩ := DataW.trod_int Try.underlying24 hy2
  obtain ⟨x3, e3, rfl, w3⟩ := DataW.trod_int Try.underlying24 hy3
  simp at e0 e1 e2 e3
  subst e0 e1 e2 e3
  simp only [Prod.mk.injEq] at hx
  obtain ⟨rfl, rfl⟩ := hx
  have b0 := bounds_u64 w0
  have b1 := bounds_u64 w1
  have b2 := bounds_u64 w2
  have b3 := bounds_u64 w3
  obtain ⟨a0, rfl⟩ := Int.eq_ofNat_of_zero_le b0.1
  obtain ⟨a1, rfl⟩ := Int.eq_ofNat_of_zero_le b1.1
  obtain ⟨a2, rfl⟩ := Int.eq_ofNat_of_zero_le b2.1
  obtain ⟨a3, rfl⟩ := Int.eq_ofNat_of_zero_le b3.1
  have hw := fun i h => wd_of (fun i => if i = 0 then a0 else if i = 1 then a1 else if i = 2 then a2 else a3) i h
  refine ⟨fun c => ((fun i => if i = 0 then a0 else if i = 1 then a1 else if i = 2 then a2 else a3) (c / 64)).testBit (c % 64), ?_, by simp, fun w' base' spare' held' => ?_⟩
  · unfold setV setA
    rw [hw 0 (by simp; omega), hw 1 (by simp; omega), hw 2 (by simp; omega), hw 3 (by simp; omega)]
    rfl
  · refine ⟨2, ?_⟩
    simp [DataW.trod, Value.cells, set_under, Try.underlying24, setCells, u64Cells, List.range, List.range.loop, w0, w1, w2, w3]
theorem u8Cells : Try.prog.cellsOf 5 = 1 := by kernel_rfl
set_option maxRecDepth 100000 in
theorem open_bs {H : Type} {enc : TypeId × Value → H} {w : World} {base : Nat} {r : Reach} {v : Value} {d : DataW H} {p : List MemPlace}
    (hv : Value.okWide Try.prog w r base 22 v) (h : DataW.Trod enc Try.prog w 0 (fun _ => true) true 22 v d p) : ∃ l : List UInt8, BS w v l := by
  obtain ⟨a, len, cap, rfl⟩ := okWide_slice Try.underlying22 hv
  obtain ⟨fuel, hf⟩ := h
  rcases open_ints Try.underlying22 Try.underlying5 u8Cells hf with ⟨hcs, hx⟩ | ⟨a', len', cap', zs, hcs, _, hl, hm, hz, hx, hcell, hwz⟩
  · simp [Value.cells] at hcs
    obtain ⟨rfl, rfl, rfl⟩ := hcs
    exact ⟨[], BS.nil w⟩
  · simp [Value.cells] at hcs
    obtain ⟨rfl, rfl, rfl⟩ := hcs
    simp only [if_true] at hz
    refine ⟨(zs.take len).map fun z => UInt8.ofNat z.toNat, some a', cap, ?_, ?_, hm, fun hn => ?_⟩
    · rw [List.length_map, List.length_take, hz, Nat.min_eq_left hl]
    · rw [List.length_map, List.length_take, hz, Nat.min_eq_left hl]; exact hl
    · have h0 : 0 < len := by
        rcases Nat.eq_zero_or_pos len with h1 | h1
        · subst h1; simp at hn
        · exact h1
      obtain ⟨b, o, s⟩ := a'
      obtain rfl : s = none := by simpa [Addr.add] using World.cell?_spot (hcell 0 (by omega))
      have hc0 := hcell 0 (by omega)
      rw [add_lit'] at hc0
      refine ⟨b, o, rfl, World.block_lt_of_cell? _ _ hc0, fun j hj => ?_⟩
      rw [List.length_map, List.length_take, hz, Nat.min_eq_left hl] at hj
      have hcj := hcell j (by omega)
      rw [add_lit'] at hcj
      rw [hcj]
      have hjz : j < zs.length := by omega
      have e1 : zs.getD j 0 = zs[j] := by rw [List.getD_eq_getElem?_getD, List.getElem?_eq_getElem hjz]; rfl
      have hb := bounds_u8 (hwz _ (List.getElem_mem hjz))
      rw [e1, List.getD_eq_getElem?_getD, List.getElem?_map, List.getElem?_take_of_lt hj, List.getElem?_eq_getElem hjz]
      show _ = some (Value.int .u8 (((UInt8.ofNat (zs[j]).toNat).toNat : Nat) : Int))
      rw [UInt8.toNat_ofNat']
      congr 2
      omega
theorem u8_of {n : Int} (h : (Lit.int .u8 n).wf = true) : ∃ c : UInt8, n = ((c.toNat : Nat) : Int) := by
  have hb := bounds_u8 h
  refine ⟨UInt8.ofNat n.toNat, ?_⟩
  rw [UInt8.toNat_ofNat']
  omega
end Go.Proofs.Ytfmekmbdienbjaa
