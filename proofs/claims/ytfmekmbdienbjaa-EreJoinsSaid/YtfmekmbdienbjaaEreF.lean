/- Layer 4: the reader in memory; how a reading ends; the contract of escape. -/
import Derived.Test.YtfmekmbdienbjaaEreE
import Derived.Laws.Tables
import Derived.Laws.Rows
import Derived.Laws.CopyOwn
namespace Go.Proofs.Ytfmekmbdienbjaa
set_option linter.unusedSimpArgs false
set_option linter.unusedVariables false
set_option linter.unnecessarySimpa false
open Go.RowKit

theorem Kept.setRow {rb B g : Nat} {a w : World} (h : Kept rb B a w) (hg : B ≤ g ∨ g = rb) (cs : Array Value) : Kept rb B a (w.setRow g cs) :=
  h.trans ⟨rfl, rfl, rfl, by simp [World.setRow], fun k hk hn => setRow_other w g k cs (by omega)⟩
theorem Row.setRow {w : World} {b g : Nat} {T : TypeId} {cs : Array Value} (h : Row w b T cs) (hn : b ≠ g) (c : Array Value) : Row (w.setRow g c) b T cs := (setRow_other w g b c hn).trans h
theorem Row.setRow_same {w : World} {g : Nat} {T : TypeId} {cs : Array Value} (h : Row w g T cs) (c : Array Value) : Row (w.setRow g c) g T c := setRow_heap w g _ _ _ _ h
theorem Row.eight {w : World} {b : Nat} {T : TypeId} {y0 y1 y2 y3 y4 y5 y6 y7 : Value} (h : Row w b T #[y0, y1, y2, y3, y4, y5, y6, y7]) :
    w.cell? ⟨b, 0, none⟩ = some y0 ∧ w.cell? ⟨b, 1, none⟩ = some y1 ∧ w.cell? ⟨b, 2, none⟩ = some y2 ∧ w.cell? ⟨b, 3, none⟩ = some y3 ∧ w.cell? ⟨b, 4, none⟩ = some y4 ∧ w.cell? ⟨b, 5, none⟩ = some y5 ∧ w.cell? ⟨b, 6, none⟩ = some y6 ∧ w.cell? ⟨b, 7, none⟩ = some y7 ∧ w.frozen? ⟨b, 0, none⟩ = false ∧ w.frozen? ⟨b, 1, none⟩ = false ∧ w.frozen? ⟨b, 2, none⟩ = false ∧ w.frozen? ⟨b, 3, none⟩ = false ∧ w.frozen? ⟨b, 4, none⟩ = false ∧ w.frozen? ⟨b, 5, none⟩ = false ∧ w.frozen? ⟨b, 6, none⟩ = false ∧ w.frozen? ⟨b, 7, none⟩ = false ∧ b < w.heap.size :=
  ⟨h.cell 0, h.cell 1, h.cell 2, h.cell 3, h.cell 4, h.cell 5, h.cell 6, h.cell 7, h.froz 0, h.froz 1, h.froz 2, h.froz 3, h.froz 4, h.froz 5, h.froz 6, h.froz 7, h.lt⟩
theorem set8 {w : World} {b : Nat} {T : TypeId} {y0 y1 y2 y3 y4 y5 y6 y7 : Value} (h : Row w b T #[y0, y1, y2, y3, y4, y5, y6, y7]) (x0 x1 x2 x3 x4 x5 x6 x7 : Value) :
    ((((((((w.setCell ⟨b, 0, none⟩ x0).setCell ⟨b, 1, none⟩ x1).setCell ⟨b, 2, none⟩ x2).setCell ⟨b, 3, none⟩ x3).setCell ⟨b, 4, none⟩ x4).setCell ⟨b, 5, none⟩ x5).setCell ⟨b, 6, none⟩ x6).setCell ⟨b, 7, none⟩ x7) = w.setRow b #[x0, x1, x2, x3, x4, x5, x6, x7] := by
  have e0 : w.setCell ⟨b, 0, none⟩ x0 = w.setRow b #[x0, y1, y2, y3, y4, y5, y6, y7] := by rw [setCell_eq_setRow w b 0 _ T (0, 0) x0 h]; rfl
  have e1 : (w.setRow b #[x0, y1, y2, y3, y4, y5, y6, y7]).setCell ⟨b, 1, none⟩ x1 = w.setRow b #[x0, x1, y2, y3, y4, y5, y6, y7] := by rw [setCell_eq_setRow _ b 1 _ T (0, 0) x1 (Row.setRow_same h _), setRow_setRow]; rfl
  have e2 : (w.setRow b #[x0, x1, y2, y3, y4, y5, y6, y7]).setCell ⟨b, 2, none⟩ x2 = w.setRow b #[x0, x1, x2, y3, y4, y5, y6, y7] := by rw [setCell_eq_setRow _ b 2 _ T (0, 0) x2 (Row.setRow_same h _), setRow_setRow]; rfl
  have e3 : (w.setRow b #[x0, x1, x2, y3, y4, y5, y6, y7]).setCell ⟨b, 3, none⟩ x3 = w.setRow b #[x0, x1, x2, x3, y4, y5, y6, y7] := by rw [setCell_eq_setRow _ b 3 _ T (0, 0) x3 (Row.setRow_same h _), setRow_setRow]; rfl
  have e4 : (w.setRow b #[x0, x1, x2, x3, y4, y5, y6, y7]).setCell ⟨b, 4, none⟩ x4 = w.setRow b #[x0, x1, x2, x3, x4, y5, y6, y7] := by rw [setCell_eq_setRow _ b 4 _ T (0, 0) x4 (Row.setRow_same h _), setRow_setRow]; rfl
  have e5 : (w.setRow b #[x0, x1, x2, x3, x4, y5, y6, y7]).setCell ⟨b, 5, none⟩ x5 = w.setRow b #[x0, x1, x2, x3, x4, x5, y6, y7] := by rw [setCell_eq_setRow _ b 5 _ T (0, 0) x5 (Row.setRow_same h _), setRow_setRow]; rfl
  have e6 : (w.setRow b #[x0, x1, x2, x3, x4, x5, y6, y7]).setCell ⟨b, 6, none⟩ x6 = w.setRow b #[x0, x1, x2, x3, x4, x5, x6, y7] := by rw [setCell_eq_setRow _ b 6 _ T (0, 0) x6 (Row.setRow_same h _), setRow_setRow]; rfl
  have e7 : (w.setRow b #[x0, x1, x2, x3, x4, x5, x6, y7]).setCell ⟨b, 7, none⟩ x7 = w.setRow b #[x0, x1, x2, x3, x4, x5, x6, x7] := by rw [setCell_eq_setRow _ b 7 _ T (0, 0) x7 (Row.setRow_same h _), setRow_setRow]; rfl
  rw [e0, e1, e2, e3, e4, e5, e6, e7]
theorem part_info : (Try.prog.info? 29).map (·.size) = some 8 := by kernel_rfl
theorem pst {w : World} {B : Nat} {c0 cs : Array Value} (hr : Row w B 29 c0) (h0 : c0.size = 8) (h8 : cs.size = 8) (h1 : ∀ v ∈ cs.toList, v.oneCell' = true) :
    (storeCells ⟨B, 0, none⟩ cs.toList).run Try.prog w = .ok () (w.setRow B cs) := by
  have := run_storeCells_from (P := Try.prog) B 29 cs.toList 0 c0 w hr (by rw [h0, Array.length_toList, h8]) h1
  simpa using this
theorem pret {fn : Func} (h : fn.results = #[.cell 2 29, .tmp 3]) {w : World} {B : Nat} {cs : Array Value} (hr : Row w B 29 cs) (h8 : cs.size = 8) {tmps : Array Value} {ev : Value}
    (h2 : tmps.getD 2 undef = .pointer (some ⟨B, 0, none⟩)) (h3 : tmps.getD 3 undef = ev) : (results fn tmps).run Try.prog w = .ok (.tuple #[.agg cs, ev]) w := by
  have h2' : tmps[2]?.getD undef = .pointer (some ⟨B, 0, none⟩) := by simpa using h2
  have h3' : tmps[3]?.getD undef = ev := by simpa using h3
  simp [results, h, h2', h3', asAddr, run_loadVar_row w B _ _ cs _ _ hr Try.underlying29 rfl (by rw [part_info, h8])]
theorem PValS.size {w : World} {S : Nat → Prop} {c : Array Value} {t : PT} (h : PValS w S c t) : c.size = 8 := by
  obtain ⟨k, p, a, b, ad, n, cap, rfl⟩ := h.inv; rfl
theorem PVal.size {w : World} {lo : Nat} {c : Array Value} {t : PT} (h : PVal w lo c t) : c.size = 8 := by
  obtain ⟨k, p, a, b, ad, n, cap, rfl⟩ := h.inv; rfl
theorem PVal.one {w : World} {lo : Nat} {c : Array Value} {t : PT} (h : PVal w lo c t) : ∀ v ∈ c.toList, v.oneCell' = true := by
  obtain ⟨k, p, a, b, ad, n, cap, rfl⟩ := h.inv
  intro v hv
  simp at hv
  rcases hv with rfl | rfl | rfl | rfl | rfl | rfl | rfl | rfl <;> rfl
theorem PValS.one {w : World} {S : Nat → Prop} {c : Array Value} {t : PT} (h : PValS w S c t) : ∀ v ∈ c.toList, v.oneCell' = true := by
  obtain ⟨k, p, a, b, ad, n, cap, rfl⟩ := h.inv
  intro v hv
  simp at hv
  rcases hv with rfl | rfl | rfl | rfl | rfl | rfl | rfl | rfl <;> rfl
theorem zeroPA_one : ∀ v ∈ zeroPA.toList, v.oneCell' = true := by
  intro v hv
  simp at hv
  rcases hv with rfl | rfl | rfl | rfl <;> rfl

/-- What lies below the reader: its bytes, the library's own variable. -/
structure Env (w : World) (rb : Nat) (v : Value) (l : List UInt8) : Prop where
  bs : ∃ p c, v = .slice p l.length c ∧ l.length ≤ c ∧ c ≤ maxLen ∧ (l ≠ [] → ∃ b o, p = some ⟨b, o, none⟩ ∧ b < rb ∧ ∀ j, j < l.length → w.cell? ⟨b, o + j, none⟩ = some (bv (l.getD j 0)))
  hm : ∃ m : Int, w.cell? ⟨0, 0, none⟩ = some (.int .i64 m) ∧ 0 < rb
  rl : rb < w.heap.size
theorem Env.BS {w : World} {rb : Nat} {v : Value} {l : List UInt8} (h : Env w rb v l) : BS w v l := by
  obtain ⟨p, c, e, h1, h2, h3⟩ := h.bs
  refine ⟨p, c, e, h1, h2, fun hn => ?_⟩
  obtain ⟨b, o, e', hb, hc⟩ := h3 hn
  exact ⟨b, o, e', Nat.lt_trans hb h.rl, hc⟩
theorem Env.HM {w : World} {rb : Nat} {v : Value} {l : List UInt8} (h : Env w rb v l) : HM w := by
  obtain ⟨m, h1, h2⟩ := h.hm
  exact ⟨m, h1, Nat.lt_trans h2 h.rl⟩
theorem Env.on {w w' : World} {rb : Nat} {v : Value} {l : List UInt8} (h : Env w rb v l) (k : Kept rb w.heap.size w w') : Env w' rb v l := by
  have kb : Below rb w w' := k.below (Nat.le_refl _) (Nat.le_of_lt h.rl)
  refine ⟨?_, ?_, Nat.lt_of_lt_of_le h.rl k.size⟩
  · obtain ⟨p, c, e, h1, h2, h3⟩ := h.bs
    refine ⟨p, c, e, h1, h2, fun hn => ?_⟩
    obtain ⟨b, o, e', hb, hc⟩ := h3 hn
    exact ⟨b, o, e', hb, fun j hj => (kb.cell (p := ⟨b, o + j, none⟩) hb).trans (hc j hj)⟩
  · obtain ⟨m, h1, h2⟩ := h.hm
    exact ⟨m, (kb.cell (p := ⟨0, 0, none⟩) h2).trans h1, h2⟩
theorem Env.blw {w w' : World} {rb : Nat} {v : Value} {l : List UInt8} (h : Env w rb v l) (kb : Below rb w w') : Env w' rb v l := by
  refine ⟨?_, ?_, Nat.lt_of_lt_of_le h.rl kb.size⟩
  · obtain ⟨p, c, e, h1, h2, h3⟩ := h.bs
    refine ⟨p, c, e, h1, h2, fun hn => ?_⟩
    obtain ⟨b, o, e', hb, hc⟩ := h3 hn
    exact ⟨b, o, e', hb, fun j hj => (kb.cell (p := ⟨b, o + j, none⟩) hb).trans (hc j hj)⟩
  · obtain ⟨m, h1, h2⟩ := h.hm
    exact ⟨m, (kb.cell (p := ⟨0, 0, none⟩) h2).trans h1, h2⟩
theorem Env.at {w : World} {rb : Nat} {p : Option Addr} {c n : Nat} {l : List UInt8} (h : Env w rb (.slice p n c) l) (hn : l ≠ []) : ∃ b o, p = some ⟨b, o, none⟩ ∧ b < rb ∧ ∀ j, j < l.length → w.cell? ⟨b, o + j, none⟩ = some (bv (l.getD j 0)) := by
  obtain ⟨p', c', e, _, _, h3⟩ := h.bs
  injection e with e1 e2 e3
  subst e1
  exact h3 hn
/-- The reader. -/
abbrev RD (w : World) (rb : Nat) (v : Value) (k o : Nat) : Prop := Row w rb 43 #[v, .int .i64 (k : Int), .int .i64 (o : Int)]
/-- What a reading hands back: a part and no error, or nothing and an error at a place. -/
def OutR (w : World) (rb B : Nat) (R : ER) (cs : Array Value) (ev : Value) : Prop := match R with
  | .ok t _ => ev = .nilIface ∧ PVal w B cs t
  | .bad a c => cs = zeroPA ∧ ∃ b, ev = .iface 47 (.pointer (some ⟨b, 0, none⟩)) ∧ B ≤ b ∧ b ≠ rb ∧ FRow w b a c
/-- Where the reader stands behind it. -/
def AtR (w : World) (rb : Nat) (v : Value) (o : Nat) : ER → Prop
  | .ok _ n => RD w rb v n o
  | .bad _ _ => ∃ k o', RD w rb v k o'
def EndR (rb : Nat) (v : Value) (o : Nat) (w : World) (R : ER) (e : Ending) (w' : World) : Prop :=
  ∃ cs ev, e = .returned (.tuple #[.agg cs, ev]) ∧ OutR w' rb w.heap.size R cs ev ∧ AtR w' rb v o R ∧ Kept rb w.heap.size w w'
theorem OutR.size {w : World} {rb B : Nat} {R : ER} {cs : Array Value} {ev : Value} (h : OutR w rb B R cs ev) : cs.size = 8 := by
  cases R with
  | ok t n => exact h.2.size
  | bad a c => rw [h.1]; rfl
theorem OutR.on {w w' : World} {rb B : Nat} {R : ER} {cs : Array Value} {ev : Value} (h : OutR w rb B R cs ev) (k : Kept rb w.heap.size w w') (hB : rb < B) : OutR w' rb B R cs ev := by
  cases R with
  | ok t n => exact ⟨h.1, h.2.on k hB⟩
  | bad a c => obtain ⟨h1, b, h2, h3, h4, h5⟩ := h; exact ⟨h1, b, h2, h3, h4, h5.kept k h5.lt h4⟩
theorem OutR.le {w : World} {rb B B' : Nat} {R : ER} {cs : Array Value} {ev : Value} (h : OutR w rb B R cs ev) (k : B' ≤ B) : OutR w rb B' R cs ev := by
  cases R with
  | ok t n => exact ⟨h.1, h.2.le k⟩
  | bad a c => obtain ⟨h1, b, h2, h3, h4, h5⟩ := h; exact ⟨h1, b, h2, Nat.le_trans k h3, h4, h5⟩
theorem AtR.on {w w' : World} {rb B : Nat} {v : Value} {o : Nat} {R : ER} (h : AtR w rb v o R) (k : Below B w w') (hb : rb < B) : AtR w' rb v o R := by
  cases R with
  | ok t n => exact (k.block rb hb).trans h
  | bad a c => obtain ⟨x, y, h⟩ := h; exact ⟨x, y, (k.block rb hb).trans h⟩

theorem OutR.form {w : World} {rb B : Nat} {R : ER} {cs : Array Value} {ev : Value} (h : OutR w rb B R cs ev) : ∃ (a0 a1 a2 a3 a4 a5 a6 : Int) (ad : Option Addr) (n cap : Nat), cs = #[.int .i64 a0, .int .u64 a1, .int .u64 a2, .int .u64 a3, .int .u64 a4, .int .i64 a5, .int .i64 a6, .slice ad n cap] := by
  cases R with
  | ok t n =>
    obtain ⟨k, p, a, b, ad, n, cap, rfl⟩ := h.2.inv
    exact ⟨_, _, _, _, _, _, _, _, _, _, rfl⟩
  | bad a c => rw [h.1]; exact ⟨_, _, _, _, _, _, _, _, _, _, rfl⟩
theorem OutR.err {w : World} {rb B : Nat} {R : ER} {cs : Array Value} {ev : Value} (h : OutR w rb B R cs ev) : ev = .nilIface ∨ ∃ b, ev = .iface 47 (.pointer (some ⟨b, 0, none⟩)) := by
  cases R with
  | ok t n => exact Or.inl h.1
  | bad a c => obtain ⟨h1, b, h2, _⟩ := h; exact Or.inr ⟨b, h2⟩
theorem OutR.setRow {w : World} {rb B g : Nat} {R : ER} {cs : Array Value} {ev : Value} (h : OutR w rb B R cs ev) (hg : g < B) (c : Array Value) : OutR (w.setRow g c) rb B R cs ev := by
  cases R with
  | ok t n => exact ⟨h.1, h.2.setRow hg c⟩
  | bad a cc => obtain ⟨h1, b, h2, h3, h4, h5⟩ := h; exact ⟨h1, b, h2, h3, h4, h5.setRow (by omega) c⟩
theorem AtR.setRow {w : World} {rb g : Nat} {v : Value} {o : Nat} {R : ER} (h : AtR w rb v o R) (hg : rb ≠ g) (c : Array Value) : AtR (w.setRow g c) rb v o R := by
  cases R with
  | ok t n => exact Row.setRow h hg c
  | bad a cc => obtain ⟨x, y, h⟩ := h; exact ⟨x, y, Row.setRow h hg c⟩
theorem AtR.alloc {w : World} {rb : Nat} {v : Value} {o : Nat} {R : ER} (h : AtR w rb v o R) (ob : Obj) : AtR (w.alloc ob) rb v o R := by
  cases R with
  | ok t n => exact Row.alloc h ob
  | bad a cc => obtain ⟨x, y, h⟩ := h; exact ⟨x, y, Row.alloc h ob⟩
theorem size8 {c : Array Value} (h : c.size = 8) : ∃ x0 x1 x2 x3 x4 x5 x6 x7, c = #[x0, x1, x2, x3, x4, x5, x6, x7] := by
  rcases c with ⟨_ | ⟨a, _ | ⟨b, _ | ⟨c, _ | ⟨d, _ | ⟨e, _ | ⟨f, _ | ⟨g, _ | ⟨i, _ | ⟨j, l⟩⟩⟩⟩⟩⟩⟩⟩⟩⟩ <;> simp at h
  exact ⟨a, b, c, d, e, f, g, i, rfl⟩
end Go.Proofs.Ytfmekmbdienbjaa
