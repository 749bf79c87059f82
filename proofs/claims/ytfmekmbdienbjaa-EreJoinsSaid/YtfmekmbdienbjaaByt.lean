/- Bytes, strings and rows of cells in memory: slices of bytes, their parts, strings turned into bytes, 'append'. Nothing of the program. -/
import Derived.Test.YtfmekmbdienbjaaDecM
import Derived.Test.YtfmekmbdienbjaaRows
import Derived.WalkSpells
import Derived.WalkLawsBesides
import Derived.Lib.Hide
import Derived.Maps.AppendAt
import Derived.Laws.BytesArg
import Derived.Laws.CopyOwn
import Derived.ArgAppend
import Derived.Deep.Upon
namespace Go.Proofs.Ytfmekmbdienbjaa
set_option linter.unusedSimpArgs false
set_option linter.unusedVariables false
set_option linter.unnecessarySimpa false
open Go.RowKit

theorem add_lit' (b off j : Nat) : (⟨b, off, none⟩ : Addr).add j = ⟨b, off + j, none⟩ := by unfold Addr.add; split <;> simp_all
/-- The value of a byte. -/
abbrev bv (c : UInt8) : Value := .int .u8 ((c.toNat : Nat) : Int)
/-- The bytes l lie where a slice of l.length begins. -/
def U8s (w : World) (p : Option Addr) (l : List UInt8) : Prop := l ≠ [] → ∃ b o, p = some ⟨b, o, none⟩ ∧ b < w.heap.size ∧ ∀ j, j < l.length → w.cell? ⟨b, o + j, none⟩ = some (bv (l.getD j 0))
/-- A slice that reads as the bytes l. -/
def BS (w : World) (v : Value) (l : List UInt8) : Prop := ∃ p c, v = .slice p l.length c ∧ l.length ≤ c ∧ c ≤ maxLen ∧ U8s w p l
theorem U8s.on {w w' : World} {p : Option Addr} {l : List UInt8} (h : U8s w p l) (k : Below w.heap.size w w') : U8s w' p l := by
  intro hn
  obtain ⟨b, o, e, hb, hc⟩ := h hn
  exact ⟨b, o, e, Nat.lt_of_lt_of_le hb k.size, fun j hj => (k.cell (p := ⟨b, o + j, none⟩) hb).trans (hc j hj)⟩
theorem BS.on {w w' : World} {v : Value} {l : List UInt8} (h : BS w v l) (k : Below w.heap.size w w') : BS w' v l := by
  obtain ⟨p, c, e, h1, h2, h3⟩ := h
  exact ⟨p, c, e, h1, h2, h3.on k⟩
theorem BS.nil (w : World) : BS w (.slice none 0 0) [] := ⟨none, 0, rfl, Nat.le_refl _, by simp [maxLen], fun h => absurd rfl h⟩
theorem drop_u8 (l : List UInt8) {k : Nat} (h : k < l.length) : l.drop k = l.getD k 0 :: l.drop (k + 1) := by
  rw [List.drop_eq_getElem_cons h, List.getD_eq_getElem?_getD, List.getElem?_eq_getElem h]; rfl
theorem take_u8 (l : List UInt8) {k : Nat} (h : k < l.length) : l.take (k + 1) = l.take k ++ [l.getD k 0] := by
  rw [List.take_succ_eq_append_getElem h, List.getD_eq_getElem?_getD, List.getElem?_eq_getElem h]; rfl

/-- A row of cells of the call's own. -/
def Row (w : World) (b : Nat) (T : TypeId) (cs : Array Value) : Prop := w.heap[b]? = some (.cells cs T (0, 0))
theorem Row.cell {w : World} {b : Nat} {T : TypeId} {cs : Array Value} (h : Row w b T cs) (j : Nat) : w.cell? ⟨b, j, none⟩ = cs[j]? := cell_of_row w b j cs T (0, 0) h
theorem Row.froz {w : World} {b : Nat} {T : TypeId} {cs : Array Value} (h : Row w b T cs) (j : Nat) : w.frozen? ⟨b, j, none⟩ = false := frozen_of_row w b j cs T h
theorem Row.lt {w : World} {b : Nat} {T : TypeId} {cs : Array Value} (h : Row w b T cs) : b < w.heap.size := (Array.getElem?_eq_some_iff.1 h).1
theorem Row.set {w : World} {b : Nat} {T : TypeId} {cs : Array Value} (h : Row w b T cs) (j : Nat) (v : Value) : Row (w.setCell ⟨b, j, none⟩ v) b T (cs.setIfInBounds j v) := heap_setCell_same w b j cs T v h
theorem Row.far {w : World} {b : Nat} {T : TypeId} {cs : Array Value} (h : Row w b T cs) {a : Addr} (hn : b ≠ a.block) (v : Value) : Row (w.setCell a v) b T cs := (heap_setCell_other w a b v hn).trans h
theorem Row.new (w : World) (T : TypeId) (cs : Array Value) : Row (w.alloc (.cells cs T)) w.heap.size T cs := heap_alloc_new w _
theorem Row.alloc {w : World} {b : Nat} {T : TypeId} {cs : Array Value} (h : Row w b T cs) (o : Obj) : Row (w.alloc o) b T cs := (Below.heap_alloc w o b h.lt).trans h
theorem Row.on {w w' : World} {b : Nat} {T : TypeId} {cs : Array Value} (h : Row w b T cs) (k : Below w.heap.size w w') : Row w' b T cs := (k.block b h.lt).trans h

/-- b[i:j]. -/
def subV (p : Option Addr) (c i j : Nat) : Value := .slice (if c = i then p else p.map (fun a => a.add i)) (j - i) (c - i)
theorem run_sub (p : Option Addr) (n c i j : Nat) (hi : i ≤ j) (hj : j ≤ c) (w : World) :
    (Instr.slice 22 (.slice p n c) (some (.int .i64 (i : Int))) (some (.int .i64 (j : Int))) none).run Try.prog w = .ok (subV p c i j) w := by
  have ht' : Try.prog.underlying 22 = some (.slice (Try.prog.elem 22)) := by kernel_rfl
  have hz : ∀ w, (Go.sizeOf (Try.prog.elem 22)).run Try.prog w = .ok 1 w := fun w => by kernel_rfl
  rw [run_slice_lh w 22 _ _ _ ht' .i64 .i64 _ _ (by omega) (by omega) (by omega), hz]
  simp [Result.andThen, sliced, subV]
theorem run_sub_to (p : Option Addr) (n c j : Nat) (hj : j ≤ c) (w : World) :
    (Instr.slice 22 (.slice p n c) none (some (.int .i64 (j : Int))) none).run Try.prog w = .ok (subV p c 0 j) w := by
  have ht' : Try.prog.underlying 22 = some (.slice (Try.prog.elem 22)) := by kernel_rfl
  have hz : ∀ w, (Go.sizeOf (Try.prog.elem 22)).run Try.prog w = .ok 1 w := fun w => by kernel_rfl
  rw [run_slice_h w 22 _ _ _ ht' .i64 _ (by omega) (by omega), hz]
  simp [Result.andThen, sliced, subV]
theorem run_sub_from (p : Option Addr) (n c i : Nat) (hi : i ≤ n) (w : World) :
    (Instr.slice 22 (.slice p n c) (some (.int .i64 (i : Int))) none none).run Try.prog w = .ok (subV p c i n) w := by
  have ht' : Try.prog.underlying 22 = some (.slice (Try.prog.elem 22)) := by kernel_rfl
  have hz : ∀ w, (Go.sizeOf (Try.prog.elem 22)).run Try.prog w = .ok 1 w := fun w => by kernel_rfl
  rw [run_slice_l w 22 _ _ _ ht' .i64 _ (by omega) (by omega), hz]
  simp [Result.andThen, sliced, subV]
theorem getD_drop_take (l : List UInt8) {i j k : Nat} (hk : k < j - i) (hj : j ≤ l.length) : ((l.drop i).take (j - i)).getD k 0 = l.getD (i + k) 0 := by
  rw [List.getD_eq_getElem?_getD, List.getD_eq_getElem?_getD, List.getElem?_take_of_lt hk, List.getElem?_drop]
theorem subV_bs {w : World} {p : Option Addr} {c : Nat} {l : List UInt8} (h : U8s w p l) (hlc : l.length ≤ c) (hc : c ≤ maxLen) {i j : Nat} (hi : i ≤ j) (hj : j ≤ l.length) :
    BS w (subV p c i j) ((l.drop i).take (j - i)) := by
  have hlen : ((l.drop i).take (j - i)).length = j - i := by rw [List.length_take, List.length_drop]; omega
  refine ⟨_, c - i, by rw [hlen]; rfl, by omega, by omega, fun hn => ?_⟩
  have hij : i < j := by
    rcases Nat.lt_or_ge i j with h1 | h1
    · exact h1
    · exact absurd (List.eq_nil_of_length_eq_zero (by rw [hlen]; omega)) hn
  obtain ⟨b, o, rfl, hb, hcs⟩ := h (by rintro rfl; simp at hj; omega)
  refine ⟨b, o + i, ?_, hb, fun k hk => ?_⟩
  · rw [if_neg (by omega)]; simp [add_lit']
  · rw [hlen] at hk
    rw [getD_drop_take l hk hj, Nat.add_assoc]
    exact hcs (i + k) (by omega)

/-- Where a slice begins once j bytes are cut off. -/
def subP (p : Option Addr) (c j : Nat) : Option Addr := if c = j then p else p.map (fun a => a.add j)
theorem subP_0 (p : Option Addr) (c : Nat) : subP p c 0 = p := by
  unfold subP; split
  · rfl
  · cases p with
    | none => rfl
    | some a => cases a; simp [Addr.add]
theorem subP_some {b o c j : Nat} (h : j < c) : subP (some ⟨b, o, none⟩) c j = some ⟨b, o + j, none⟩ := by
  unfold subP; rw [if_neg (by omega)]; simp [add_lit']
theorem U8s.sub {w : World} {p : Option Addr} {c : Nat} {l : List UInt8} (h : U8s w p l) (hlc : l.length ≤ c) {j : Nat} (hj : j ≤ l.length) : U8s w (subP p c j) (l.drop j) := by
  intro hn
  have hjl : j < l.length := by
    rcases Nat.lt_or_ge j l.length with h1 | h1
    · exact h1
    · exact absurd (List.drop_of_length_le h1) hn
  obtain ⟨b, o, rfl, hb, hcs⟩ := h (by rintro rfl; simp at hjl)
  refine ⟨b, o + j, subP_some (by omega), hb, fun k hk => ?_⟩
  rw [List.length_drop] at hk
  rw [List.getD_eq_getElem?_getD, List.getElem?_drop, ← List.getD_eq_getElem?_getD, Nat.add_assoc]
  exact hcs (j + k) (by omega)
set_option maxRecDepth 100000 in
/-- 'string(b)'. -/
theorem run_str {v : Value} {l : List UInt8} {w : World} (h : BS w v l) : (convert 22 9 v).run Try.prog w = .ok (.string ⟨l.toArray⟩) w := by
  obtain ⟨p, c, rfl, hlc, hcm, hU⟩ := h
  by_cases hn : l = []
  · subst hn
    show (convert 22 9 (.slice p 0 c)).run Try.prog w = _
    rw [run_convert_bytes_string (P := Try.prog) w 22 9 5 p 0 c Try.underlying22 Try.underlying5 Try.underlying9]
    cases p <;> simp [Conv.bytesToString, loadCells]
    all_goals rfl
  · obtain ⟨b, o, rfl, hb, hcs⟩ := hU hn
    have := run_convert_bytes_arg (P := Try.prog) w 22 5 Try.underlying22 Try.underlying5 b o l.length c (l.map fun x => ((x.toNat : Nat) : Int)) (by simp)
      (fun i hi => by
        rw [hcs i hi, List.getD_eq_getElem?_getD, List.getD_eq_getElem?_getD, List.getElem?_map, List.getElem?_eq_getElem hi]; rfl) 9 Try.underlying9
    rw [this]
    congr 2
    unfold strOfNums
    rw [List.map_map]
    congr 1
    congr 1
    conv => rhs; rw [← List.map_id l]
    congr 1
    funext x
    simp
/-- The cells of bytes. -/
def bvs (l : List UInt8) : List Value := l.map bv
theorem bvs_len (l : List UInt8) : (bvs l).length = l.length := by simp [bvs]
theorem bvs_one (l : List UInt8) : ∀ u ∈ bvs l, u.oneCell' = true := by
  intro u hu; unfold bvs at hu; obtain ⟨n, _, rfl⟩ := List.mem_map.1 hu; rfl
theorem bvs_get {l : List UInt8} {j : Nat} (h : j < l.length) : (bvs l)[j]? = some (bv (l.getD j 0)) := by
  unfold bvs
  rw [List.getElem?_map, List.getElem?_eq_getElem h, List.getD_eq_getElem?_getD, List.getElem?_eq_getElem h]; rfl
theorem bvs_get' {l : List UInt8} {j : Nat} {u : Value} (h : (bvs l)[j]? = some u) : j < l.length ∧ u = bv (l.getD j 0) := by
  have hj : j < l.length := by
    rcases Nat.lt_or_ge j l.length with h1 | h1
    · exact h1
    · rw [List.getElem?_eq_none (by rw [bvs_len]; omega)] at h; cases h
  rw [bvs_get hj] at h
  exact ⟨hj, (Option.some.inj h).symm⟩
theorem bvs_splice (L : List UInt8) (off : Nat) (cs : List UInt8) : splice (bvs L) off (bvs cs) = bvs (splice L off cs) := by
  unfold splice bvs; simp [List.map_append, List.map_take, List.map_drop]
/-- What a slice of the call's own row reads as. -/
theorem Row.u8s {w : World} {b : Nat} {T : TypeId} {L : List UInt8} (h : Row w b T (bvs L).toArray) {i m : Nat} (hi : i + m ≤ L.length) : U8s w (some ⟨b, i, none⟩) ((L.drop i).take m) := by
  intro _
  refine ⟨b, i, rfl, h.lt, fun j hj => ?_⟩
  rw [List.length_take, List.length_drop] at hj
  rw [h.cell, List.getElem?_toArray, bvs_get (by omega), List.getD_eq_getElem?_getD, List.getD_eq_getElem?_getD, List.getElem?_take_of_lt (by omega), List.getElem?_drop]
theorem U8s.src {w : World} {p : Option Addr} {l : List UInt8} (h : U8s w p l) (m : Nat) (h0 : 0 < (bvs (l.take m)).length) : ∃ ad, p = some ad ∧ ∀ j u, (bvs (l.take m))[j]? = some u → w.cell? (ad.add j) = some u := by
  have hn : l ≠ [] := by rintro rfl; simp [bvs] at h0
  obtain ⟨b, o, rfl, hb, hc⟩ := h hn
  refine ⟨_, rfl, fun j u hu => ?_⟩
  obtain ⟨hj, rfl⟩ := bvs_get' hu
  rw [List.length_take] at hj
  rw [add_lit', hc j (by omega), List.getD_eq_getElem?_getD, List.getD_eq_getElem?_getD, List.getElem?_take_of_lt (by omega)]
theorem Row.onb {w w' : World} {b B : Nat} {T : TypeId} {cs : Array Value} (h : Row w b T cs) (k : Below B w w') (hb : b < B) : Row w' b T cs := (k.block b hb).trans h
/-- The string of bytes. -/
def S8 (l : List UInt8) : ByteArray := ⟨l.toArray⟩
theorem S8_size (l : List UInt8) : (S8 l).size = l.length := by simp [S8, ByteArray.size]
theorem S8_list (l : List UInt8) : (S8 l).toList = l := ByteArray.toList_mk l
theorem S8_data (l : List UInt8) : (S8 l).data = l.toArray := rfl
theorem S8_inj {a b : List UInt8} (h : S8 a = S8 b) : a = b := by
  have := congrArg ByteArray.toList h
  rwa [S8_list, S8_list] at this
theorem S8_add (a b : List UInt8) : S8 a ++ S8 b = S8 (a ++ b) := ByteArray.mk_append_mk a b
theorem S8_extract (l : List UInt8) (i j : Nat) : (S8 l).extract i j = S8 ((l.drop i).take (j - i)) := by
  apply ByteArray.ext
  rw [ByteArray.data_extract, S8_data, S8_data, List.extract_toArray, List.extract_eq_take_drop]
theorem s8_len (l : List UInt8) (ty : TypeId) (w : World) : (Builtin.len_ #[9] ty #[.string (S8 l)]).run Try.prog w = .ok (.int .i64 (l.length : Int)) w := by
  rw [run_len_string w _ _ _ Try.underlying9, S8_size]; rfl
theorem s8_at (l : List UInt8) (i : Nat) (hi : i < l.length) (x : Int) (hx : x = (i : Int)) (w : World) : (Instr.index 9 (.string (S8 l)) (.int .i64 x)).run Try.prog w = .ok (bv (l.getD i 0)) w := by
  subst hx
  rw [run_index_string w _ _ _ _ Try.underlying9, dif_pos ⟨by omega, by rw [S8_size]; omega⟩]
  unfold bv
  congr 5
  rw [List.getD_eq_getElem?_getD, List.getElem?_eq_getElem hi]
  rfl
theorem s8_from (l : List UInt8) (i : Nat) (hi : i ≤ l.length) (x : Int) (hx : x = (i : Int)) (w : World) : (Instr.slice 9 (.string (S8 l)) (some (.int .i64 x)) none none).run Try.prog w = .ok (.string (S8 (l.drop i))) w := by
  subst hx
  rw [run_slice_string_l w _ _ Try.underlying9 _ _ (by omega) (by rw [S8_size]; omega), S8_extract, S8_size, Int.toNat_natCast, List.take_of_length_le (by rw [List.length_drop]; exact Nat.le_refl _)]
theorem s8_to (l : List UInt8) (i : Nat) (hi : i ≤ l.length) (x : Int) (hx : x = (i : Int)) (w : World) : (Instr.slice 9 (.string (S8 l)) none (some (.int .i64 x)) none).run Try.prog w = .ok (.string (S8 (l.take i))) w := by
  subst hx
  rw [run_slice_string_h w _ _ Try.underlying9 _ _ (by omega) (by rw [S8_size]; omega), S8_extract, Int.toNat_natCast, List.drop_zero, Nat.sub_zero]
theorem s8_add (a b : List UInt8) (h : a.length + b.length ≤ 1000000000000000) (w : World) : (binOp .add 9 (.string (S8 a)) (.string (S8 b))).run Try.prog w = .ok (.string (S8 (a ++ b))) w := by
  rw [show binOp .add 9 (.string (S8 a)) (.string (S8 b)) = Op.stringOp .add (S8 a) (S8 b) from rfl, run_string_add_sum w _ _ (by rw [S8_size, S8_size]; omega), S8_add]
/-- '[]byte(s)': how much room there is, and the world behind it. -/
def cvCap (W : World) (l : List UInt8) : Nat := grownCap W (S8 l).size 0 5
def cvW (W : World) (l : List UInt8) : World := W.drew.alloc (.cells (bytesRow (S8 l) (cvCap W l)) 5 ((bytesRow (S8 l) (cvCap W l)).size, (bytesRow (S8 l) (cvCap W l)).size + 1))
theorem run_cv (l : List UInt8) (W : World) : (convert 9 22 (.string (S8 l))).run Try.prog W = .ok (.slice (some ⟨W.heap.size, 0, none⟩) l.length (cvCap W l)) (cvW W l) := by
  rw [run_bytes_of_string W 9 22 5 (S8 l) Try.underlying9 Try.underlying22 Try.underlying5]
  unfold cvW cvCap
  rw [S8_size]
theorem cv_below (W : World) (l : List UInt8) : Below W.heap.size W (cvW W l) := (Below.refl _ _).drew.alloc (Nat.le_refl _) _
theorem cv_size (W : World) (l : List UInt8) : (cvW W l).heap.size = W.heap.size + 1 := by unfold cvW; simp
theorem cv_bs (W : World) (l : List UInt8) (hl : l.length ≤ maxLen) : BS (cvW W l) (.slice (some ⟨W.heap.size, 0, none⟩) l.length (cvCap W l)) l := by
  refine ⟨_, _, rfl, ?_, ?_, fun _ => ⟨W.heap.size, 0, rfl, by rw [cv_size]; omega, fun j hj => ?_⟩⟩
  · have := grownCap_ge W (S8 l).size 0 5
    rw [S8_size] at this
    unfold cvCap; rw [S8_size]; exact this
  · unfold cvCap; exact grownCap_le_maxLen _ _ _ _ (by rw [S8_size]; exact hl)
  · unfold cvW
    rw [show W.heap.size = W.drew.heap.size from rfl, World.cell?_alloc_mark, Nat.zero_add]
    unfold bytesRow
    rw [Array.getElem?_append_left (by rw [Array.size_map, S8_data]; simpa using hj), Array.getElem?_map, S8_data, List.getElem?_toArray, List.getElem?_eq_getElem hj, List.getD_eq_getElem?_getD, List.getElem?_eq_getElem hj]
    rfl


theorem u8_info : (Try.prog.info? 5).map (fun i => (i.zero, i.size, i.bytes)) = some (some (.int .u8 0), 1, 1) := by kernel_rfl

/-- A slice of the call's own: its block lies from B on; it reads as l; the cells behind are free. -/
def Own8 (w : World) (B : Nat) (v : Value) (l : List UInt8) : Prop := ∃ g cap, v = .slice (some ⟨g, 0, none⟩) l.length cap ∧ B ≤ g ∧ g < w.heap.size ∧ l.length ≤ cap ∧ cap ≤ maxLen ∧
  (∀ j, j < l.length → w.cell? ⟨g, j, none⟩ = some (bv (l.getD j 0))) ∧ (∀ j, l.length ≤ j → j < cap → (w.cell? ⟨g, j, none⟩).isSome = true ∧ w.frozen? ⟨g, j, none⟩ = false)
theorem Own8.bs {w : World} {B : Nat} {v : Value} {l : List UInt8} (h : Own8 w B v l) : BS w v l := by
  obtain ⟨g, cap, rfl, _, hg, h1, h2, h3, _⟩ := h
  exact ⟨_, _, rfl, h1, h2, fun _ => ⟨g, 0, rfl, hg, fun j hj => by rw [Nat.zero_add]; exact h3 j hj⟩⟩
theorem Own8.on {w w' : World} {B : Nat} {v : Value} {l : List UInt8} (h : Own8 w B v l) (k : Below w.heap.size w w') : Own8 w' B v l := by
  obtain ⟨g, cap, e, hb, hg, h1, h2, h3, h4⟩ := h
  exact ⟨g, cap, e, hb, Nat.lt_of_lt_of_le hg k.size, h1, h2, fun j hj => (k.cell (p := ⟨g, j, none⟩) hg).trans (h3 j hj), fun j hj hj' => by
    rw [k.cell (p := ⟨g, j, none⟩) hg, k.frozen (p := ⟨g, j, none⟩) hg]; exact h4 j hj hj'⟩
theorem Own8.le {w : World} {B B' : Nat} {v : Value} {l : List UInt8} (h : Own8 w B v l) (k : B' ≤ B) : Own8 w B' v l := by
  obtain ⟨g, cap, e, hb, r⟩ := h
  exact ⟨g, cap, e, by omega, r⟩
theorem Own8.new (w : World) (l : List UInt8) (T : TypeId) (hl : l.length ≤ maxLen) : Own8 (w.alloc (.cells (bvs l).toArray T)) w.heap.size (.slice (some ⟨w.heap.size, 0, none⟩) l.length l.length) l := by
  have r := Row.new w T (bvs l).toArray
  exact ⟨w.heap.size, l.length, rfl, Nat.le_refl _, r.lt, Nat.le_refl _, hl, fun j hj => (r.cell j).trans (by rw [List.getElem?_toArray]; exact bvs_get hj), fun j h1 h2 => by omega⟩
theorem Own8.cv (W : World) (l : List UInt8) (hl : l.length ≤ maxLen) : Own8 (cvW W l) W.heap.size (.slice (some ⟨W.heap.size, 0, none⟩) l.length (cvCap W l)) l := by
  obtain ⟨p, c, e, h1, h2, h3⟩ := cv_bs W l hl
  cases e
  have hsz : (bytesRow (S8 l) (cvCap W l)).size = cvCap W l := by
    unfold bytesRow
    rw [Array.size_append, Array.size_map, Array.size_replicate, S8_data, List.size_toArray, S8_size]; omega
  refine ⟨_, _, rfl, Nat.le_refl _, by rw [cv_size]; omega, h1, h2, fun j hj => ?_, fun j hj hj' => ?_⟩
  · obtain ⟨b, o, e, hb, hc⟩ := h3 (by rintro rfl; simp at hj)
    cases e
    have := hc j hj
    rwa [Nat.zero_add] at this
  · unfold cvW
    rw [show W.heap.size = W.drew.heap.size from rfl, World.cell?_alloc_mark, World.frozen?_alloc_mark, hsz]
    constructor
    · rw [Array.getElem?_eq_getElem (by rw [hsz]; exact hj')]; rfl
    · have : decide (cvCap W l ≤ j) = false := by simp; omega
      rw [this]; rfl

section
variable {P : Program}
theorem run_app_nil8 (w : World) (t ty e : TypeId) (i : TypeInfo) (ht : P.underlying t = some (.slice e)) (hi : P.info? e = some i) (g n cap c : Nat) (hn : n ≤ cap) :
    (Builtin.append_ #[t, t] ty #[.slice (some ⟨g, 0, none⟩) n cap, .slice none 0 c]).run P w = .ok (.slice (some ⟨g, 0, none⟩) n cap) w := by
  simp [Builtin.append_, run_underlying ht, sizeOf, typeInfo, hi, Builtin.lenOf, Builtin.firstCells, hn, storeCells]
end

theorem setCells8_size (g : Nat) : ∀ (vs : List Value) (o : Nat) (w : World), (w.setCells g o vs).heap.size = w.heap.size := by
  intro vs
  induction vs with
  | nil => intro o w; rfl
  | cons x vs ih => intro o w; show ((w.setCell _ _).setCells g (o + 1) vs).heap.size = _; rw [ih]; simp
theorem setCells8_below {B g : Nat} (hBg : B ≤ g) : ∀ (vs : List Value) (o : Nat) (w : World), Below B w (w.setCells g o vs) := by
  intro vs
  induction vs with
  | nil => intro o w; exact Below.refl _ _
  | cons x vs ih => intro o w; exact (show Below B w (w.setCell ⟨g, o, none⟩ x) from (Below.refl B w).setCell hBg x).trans (ih (o + 1) _)
/-- Bytes put behind bytes of the call's own. -/
theorem run_app8 (w : World) (ty : TypeId) (B : Nat) (v u : Value) (l l' : List UInt8) (hv : Own8 w B v l) (hu : BS w u l') (hmx : l.length + l'.length ≤ 1000000) (hB : B ≤ w.heap.size) :
    ∃ v' w', (Builtin.append_ #[22, 22] ty #[v, u]).run Try.prog w = .ok v' w' ∧ Own8 w' B v' (l ++ l') ∧ Below B w w' ∧ ∀ b, b < w.heap.size → v.ownBlock ≠ some b → w'.heap[b]? = w.heap[b]? := by
  obtain ⟨i0, hi, hz0, hz1, hz2⟩ := info_parts u8_info
  obtain ⟨g, cap, rfl, hBg, hg, h1, h2, h3, h4⟩ := hv
  obtain ⟨p, c, rfl, k1, k2, k3⟩ := hu
  have hlen : (l ++ l').length = l.length + l'.length := List.length_append
  cases p with
  | none =>
    have hl' : l' = [] := by
      by_cases hn : l' = []
      · exact hn
      · obtain ⟨b, o, e, _⟩ := k3 hn; cases e
    subst hl'
    exact ⟨_, _, run_app_nil8 (P := Try.prog) w 22 ty 5 i0 Try.underlying22 hi g l.length cap c h1,
      ⟨g, cap, by rw [List.append_nil], hBg, hg, by rw [List.append_nil]; exact h1, h2, by rw [List.append_nil]; exact h3, by rw [List.append_nil]; exact h4⟩, Below.refl _ _, fun _ _ _ => rfl⟩
  | some ad =>
    have hnews : ∀ j u, (bvs l')[j]? = some u → w.cell? (ad.add j) = some u := by
      intro j u hj
      obtain ⟨hlt, rfl⟩ := bvs_get' hj
      obtain ⟨b, o, e, hb, hc⟩ := k3 (by rintro rfl; simp at hlt)
      cases e
      rw [add_lit']; exact hc j hlt
    have holds : ∀ j u, (bvs l)[j]? = some u → w.cell? ((⟨g, 0, none⟩ : Addr).add j) = some u := by
      intro j u hj
      obtain ⟨hlt, rfl⟩ := bvs_get' hj
      rw [add_lit', Nat.zero_add]; exact h3 j hlt
    by_cases hroom : l.length + l'.length ≤ cap
    · have hr := run_append_room_cells (P := Try.prog) w 22 ty 5 i0 Try.underlying22 hi g 0 l.length cap ad l'.length c (bvs l') (by rw [bvs_len, hz1, Nat.mul_one]) hnews (bvs_one l') hroom
        (fun j hj => by rw [bvs_len] at hj; rw [hz1, Nat.zero_add, Nat.mul_one]; exact (h4 _ (by omega) (by omega)).1) (fun j hj => by rw [bvs_len] at hj; rw [hz1, Nat.zero_add, Nat.mul_one]; exact (h4 _ (by omega) (by omega)).2)
      rw [hz1, Nat.zero_add, Nat.mul_one] at hr
      refine ⟨_, _, hr, ⟨g, cap, by rw [hlen], hBg, by rw [setCells8_size]; exact hg, by rw [hlen]; exact hroom, h2, fun j hj => ?_, fun j hj hj' => ?_⟩, setCells8_below hBg _ _ _, fun b hb hne => World.heap_setCells_other w g _ _ hb (fun e => hne (by rw [e]; rfl))⟩
      · rw [hlen] at hj
        by_cases hjl : j < l.length
        · rw [World.cell?_setCells_out g _ _ _ ⟨g, j, none⟩ (fun _ _ => Or.inl hjl), h3 j hjl]
          rw [List.getD_eq_getElem?_getD, List.getD_eq_getElem?_getD, List.getElem?_append_left hjl]
        · have hj2 : j - l.length < (bvs l').length := by rw [bvs_len]; omega
          have := World.cell?_setCells_in g (bvs l') l.length w (fun q hq => by rw [bvs_len] at hq; exact (h4 _ (by omega) (by omega)).1) (j - l.length) hj2
          rw [show l.length + (j - l.length) = j by omega] at this
          rw [this, List.getD_eq_getElem?_getD, List.getElem?_append_right (by omega), ← List.getD_eq_getElem?_getD]
          have e := bvs_get (l := l') (j := j - l.length) (by rw [bvs_len] at hj2; exact hj2)
          rw [List.getElem?_eq_getElem hj2] at e
          exact e
      · rw [hlen] at hj
        rw [World.frozen?_setCells, World.cell?_setCells_out g _ _ _ ⟨g, j, none⟩ (fun _ _ => Or.inr (by rw [bvs_len]; exact hj))]
        exact h4 j (by omega) hj'
    · obtain ⟨v', w', hr, hown, hgrow⟩ := run_append_arg_grows (P := Try.prog) w 22 ty 5 i0 (.int .u8 0) 1 1 Try.underlying22 hi hz0 hz1 hz2 rfl (by decide) ⟨g, 0, none⟩ l.length cap (bvs l) (by rw [bvs_len, Nat.mul_one]) holds
        ad l'.length c (bvs l') (by rw [bvs_len, Nat.mul_one]) hnews (by omega) (by unfold maxLen; omega) (by omega)
      have hb : Below w.heap.size w w' := (Below.refl _ w).grown hgrow (by omega) (fun k hk => by simp at hk)
      rcases hown.2 with ⟨rfl, h0⟩ | ⟨g', cap', cur, rfl, hb', hg', hn', hc', hs', ht'⟩
      · omega
      · have hcell : ∀ j, j < l.length + l'.length → cur[j]? = some (bv ((l ++ l').getD j 0)) := by
          intro j hj
          have e1 : (cur.toList.take ((l.length + l'.length) * 1))[j]? = (bvs l ++ bvs l')[j]? := by rw [ht']
          rw [Nat.mul_one, List.getElem?_take_of_lt hj] at e1
          rw [show cur[j]? = cur.toList[j]? from by simp, e1, show bvs l ++ bvs l' = bvs (l ++ l') by unfold bvs; simp]
          exact bvs_get (by rw [hlen]; exact hj)
        have r : Row w' g' 5 cur := hg'
        refine ⟨_, _, hr, ⟨g', cap', by rw [hlen], by omega, r.lt, by rw [hlen]; exact hn', hc', fun j hj => ?_, fun j hj hj' => ?_⟩, hb.mono hB, fun b hb' _ => hb.block b hb'⟩
        · rw [hlen] at hj; rw [r.cell]; exact hcell j hj
        · exact ⟨by rw [r.cell, Array.getElem?_eq_getElem (by omega)]; rfl, r.froz j⟩
/-- For the walk: an operation that is wanted, guarded or not. -/
theorem wpList_app8k (w : World) {ops : Array Oper} {rest : List Oper} {o : Oper} {a : Act} {Q : Exit → Act → World → Prop} (hgd : Region.wanted o (yielded ops a.tmps) = true) (s x : Operand)
    (ho : o.op = .call { callee := .builtin .append, args := #[s, x], argTypes := #[22, 22] })
    (B : Nat) (v u : Value) (l l' : List UInt8) (hs : a.eval s = v) (hx : a.eval x = u) (hv : Own8 w B v l) (hu : BS w u l') (hmx : l.length + l'.length ≤ 1000000) (hB : B ≤ w.heap.size)
    (h : ∀ v' w', Own8 w' B v' (l ++ l') → Below B w w' → (∀ b, b < w.heap.size → v.ownBlock ≠ some b → w'.heap[b]? = w.heap[b]?) → wpList Try.prog ops Q rest (a.put o.dst v') w') : wpList Try.prog ops Q (o :: rest) a w := by
  obtain ⟨v', w', hr, h1, h2, h3⟩ := run_app8 w o.type B v u l l' hv hu hmx hB
  refine wpList_step fun K hK => ?_
  rw [if_pos hgd]
  unfold Oper.wp execOp
  simp only [ho, resolve, invoke, builtin, Sem.run_bind, Sem.run_pure, Result.andThen_ok, List.map_toArray, List.map_cons, List.map_nil, hs, hx, hr]
  exact hK _ _ (h v' w' h1 h2 h3)
theorem wpList_app8g (w : World) {ops : Array Oper} {rest : List Oper} {o : Oper} {a : Act} {Q : Exit → Act → World → Prop} (hgd : Region.wanted o (yielded ops a.tmps) = true) (s x : Operand)
    (ho : o.op = .call { callee := .builtin .append, args := #[s, x], argTypes := #[22, 22] })
    (B : Nat) (v u : Value) (l l' : List UInt8) (hs : a.eval s = v) (hx : a.eval x = u) (hv : Own8 w B v l) (hu : BS w u l') (hmx : l.length + l'.length ≤ 1000000) (hB : B ≤ w.heap.size)
    (h : ∀ v' w', Own8 w' B v' (l ++ l') → Below B w w' → wpList Try.prog ops Q rest (a.put o.dst v') w') : wpList Try.prog ops Q (o :: rest) a w :=
  wpList_app8k w hgd s x ho B v u l l' hs hx hv hu hmx hB (fun v' w' h1 h2 _ => h v' w' h1 h2)
theorem wpList_app8 (w : World) {ops : Array Oper} {rest : List Oper} {o : Oper} {a : Act} {Q : Exit → Act → World → Prop} (hgd : o.guard = none) (s x : Operand)
    (ho : o.op = .call { callee := .builtin .append, args := #[s, x], argTypes := #[22, 22] })
    (B : Nat) (v u : Value) (l l' : List UInt8) (hs : a.eval s = v) (hx : a.eval x = u) (hv : Own8 w B v l) (hu : BS w u l') (hmx : l.length + l'.length ≤ 1000000) (hB : B ≤ w.heap.size)
    (h : ∀ v' w', Own8 w' B v' (l ++ l') → Below B w w' → wpList Try.prog ops Q rest (a.put o.dst v') w') : wpList Try.prog ops Q (o :: rest) a w :=
  wpList_app8g w (by unfold Region.wanted; rw [hgd]) s x ho B v u l l' hs hx hv hu hmx hB h
end Go.Proofs.Ytfmekmbdienbjaa
