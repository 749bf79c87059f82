/- 'append' on slices of bytes of the call's own, whatever room they have. -/
import Derived.Test.YtfecnogmjfmghaaDoorNumQ
import Derived.ArgAppend
import Derived.Deep.Upon
namespace Go.Proofs.YtfecnogmjfmghaaDoor
set_option linter.unusedSimpArgs false
set_option linter.unusedVariables false
set_option linter.unnecessarySimpa false
open Go.RowKit

theorem u8_info : (Tryd.prog.info? 5).map (fun i => (i.zero, i.size, i.bytes)) = some (some (.int .u8 0), 1, 1) := by kernel_rfl

/-- A slice of the call's own: its block lies from B on; it reads as l; the cells behind are free. -/
def Own8 (w : World) (B : Nat) (v : Value) (l : List UInt8) : Prop := ∃ g cap, v = .slice (some ⟨g, 0, none⟩) l.length cap ∧ B ≤ g ∧ g < w.heap.size ∧ l.length ≤ cap ∧ cap ≤ maxLen ∧
  (∀ j, j < l.length → w.cell? ⟨g, j, none⟩ = some (bv (l.getD j 0))) ∧ (∀ j, l.length ≤ j → j < cap → (w.cell? ⟨g, j, none⟩).isSome = true ∧ w.frozen? ⟨g, j, none⟩ = false)
theorem Own8.bs {w : World} {B : Nat} {v : Value} {l : List UInt8} (h : Own8 w B v l) : BS w v l := by
  obtain ⟨g, cap, rfl, _, hg, h1, h2, h3, _⟩ := h
  exact ⟨_, _, rfl, h1, h2, fun _ => ⟨g, 0, rfl, hg, fun j hj => by rw [Nat.zero_add]; exact h3 j hj⟩⟩
theorem Own8.on {w w' : World} {B : Nat} {v : Value} {l : List UInt8} (h : Own8 w B v l) (k : Below w.heap.size w w') : Own8 w' B v l := by
  obtain ⟨g, cap, e, hb, hg, h1, h2, h3, h4⟩ := h
  exact ⟨g, cap, e, hb, Nat.lt_of_lt_of_le hg k.size, h1, h2, fun j hj => (k.cell (p := ⟨g, j, none⟩) hg).trans (h3 j hj), fun j hj hj' => by
    rw [k.cell (p := ⟨g, j, none⟩) hg, k.frozen (p := ⟨g, j, none⟩) hg]; exact h4 j hj hj'⟩
theorem Own8.le {w : World} {B B' : Nat} {v : Value} {l : List UInt8} (h : Own8 w B v l) (k : B' ≤ B) : Own8 w B' v l := by
  obtain ⟨g, cap, e, hb, r⟩ := h
  exact ⟨g, cap, e, by omega, r⟩
theorem Own8.new (w : World) (l : List UInt8) (T : TypeId) (hl : l.length ≤ maxLen) : Own8 (w.alloc (.cells (bvs l).toArray T)) w.heap.size (.slice (some ⟨w.heap.size, 0, none⟩) l.length l.length) l := by
  have r := Row.new w T (bvs l).toArray
  exact ⟨w.heap.size, l.length, rfl, Nat.le_refl _, r.lt, Nat.le_refl _, hl, fun j hj => (r.cell j).trans (by rw [List.getElem?_toArray]; exact bvs_get hj), fun j h1 h2 => by omega⟩
theorem Own8.cv (W : World) (l : List UInt8) (hl : l.length ≤ maxLen) : Own8 (cvW W l) W.heap.size (.slice (some ⟨W.heap.size, 0, none⟩) l.length (cvCap W l)) l := by
  obtain ⟨p, c, e, h1, h2, h3⟩ := cv_bs W l hl
  cases e
  have hsz : (bytesRow (S8 l) (cvCap W l)).size = cvCap W l := by
    unfold bytesRow
    rw [Array.size_append, Array.size_map, Array.size_replicate, S8_data, List.size_toArray, S8_size]; omega
  refine ⟨_, _, rfl, Nat.le_refl _, by rw [cv_size]; omega, h1, h2, fun j hj => ?_, fun j hj hj' => ?_⟩
  · obtain ⟨b, o, e, hb, hc⟩ := h3 (by rintro rfl; simp at hj)
    cases e
    have := hc j hj
    rwa [Nat.zero_add] at this
  · unfold cvW
    rw [show W.heap.size = W.drew.heap.size from rfl, World.cell?_alloc_mark, World.frozen?_alloc_mark, hsz]
    constructor
    · rw [Array.getElem?_eq_getElem (by rw [hsz]; exact hj')]; rfl
    · have : decide (cvCap W l ≤ j) = false := by simp; omega
      rw [this]; rfl

section
variable {P : Program}
theorem run_app_nil8 (w : World) (t ty e : TypeId) (i : TypeInfo) (ht : P.underlying t = some (.slice e)) (hi : P.info? e = some i) (g n cap c : Nat) (hn : n ≤ cap) :
    (Builtin.append_ #[t, t] ty #[.slice (some ⟨g, 0, none⟩) n cap, .slice none 0 c]).run P w = .ok (.slice (some ⟨g, 0, none⟩) n cap) w := by
  simp [Builtin.append_, run_underlying ht, sizeOf, typeInfo, hi, Builtin.lenOf, Builtin.firstCells, hn, storeCells]
end

theorem setCells8_size (g : Nat) : ∀ (vs : List Value) (o : Nat) (w : World), (w.setCells g o vs).heap.size = w.heap.size := by
  intro vs
  induction vs with
  | nil => intro o w; rfl
  | cons x vs ih => intro o w; show ((w.setCell _ _).setCells g (o + 1) vs).heap.size = _; rw [ih]; simp
theorem setCells8_below {B g : Nat} (hBg : B ≤ g) : ∀ (vs : List Value) (o : Nat) (w : World), Below B w (w.setCells g o vs) := by
  intro vs
  induction vs with
  | nil => intro o w; exact Below.refl _ _
  | cons x vs ih => intro o w; exact (show Below B w (w.setCell ⟨g, o, none⟩ x) from (Below.refl B w).setCell hBg x).trans (ih (o + 1) _)
/-- Bytes put behind bytes of the call's own. -/
theorem run_app8 (w : World) (ty : TypeId) (B : Nat) (v u : Value) (l l' : List UInt8) (hv : Own8 w B v l) (hu : BS w u l') (hmx : l.length + l'.length ≤ 1000000) (hB : B ≤ w.heap.size) :
    ∃ v' w', (Builtin.append_ #[22, 22] ty #[v, u]).run Tryd.prog w = .ok v' w' ∧ Own8 w' B v' (l ++ l') ∧ Below B w w' ∧ ∀ b, b < w.heap.size → v.ownBlock ≠ some b → w'.heap[b]? = w.heap[b]? := by
  obtain ⟨i0, hi, hz0, hz1, hz2⟩ := info_parts u8_info
  obtain ⟨g, cap, rfl, hBg, hg, h1, h2, h3, h4⟩ := hv
  obtain ⟨p, c, rfl, k1, k2, k3⟩ := hu
  have hlen : (l ++ l').length = l.length + l'.length := List.length_append
  cases p with
  | none =>
    have hl' : l' = [] := by
      by_cases hn : l' = []
      · exact hn
      · obtain ⟨b, o, e, _⟩ := k3 hn; cases e
    subst hl'
    exact ⟨_, _, run_app_nil8 (P := Tryd.prog) w 22 ty 5 i0 Tryd.underlying22 hi g l.length cap c h1,
      ⟨g, cap, by rw [List.append_nil], hBg, hg, by rw [List.append_nil]; exact h1, h2, by rw [List.append_nil]; exact h3, by rw [List.append_nil]; exact h4⟩, Below.refl _ _, fun _ _ _ => rfl⟩
  | some ad =>
    have hnews : ∀ j u, (bvs l')[j]? = some u → w.cell? (ad.add j) = some u := by
      intro j u hj
      obtain ⟨hlt, rfl⟩ := bvs_get' hj
      obtain ⟨b, o, e, hb, hc⟩ := k3 (by rintro rfl; simp at hlt)
      cases e
      rw [add_lit']; exact hc j hlt
    have holds : ∀ j u, (bvs l)[j]? = some u → w.cell? ((⟨g, 0, none⟩ : Addr).add j) = some u := by
      intro j u hj
      obtain ⟨hlt, rfl⟩ := bvs_get' hj
      rw [add_lit', Nat.zero_add]; exact h3 j hlt
    by_cases hroom : l.length + l'.length ≤ cap
    · have hr := run_append_room_cells (P := Tryd.prog) w 22 ty 5 i0 Tryd.underlying22 hi g 0 l.length cap ad l'.length c (bvs l') (by rw [bvs_len, hz1, Nat.mul_one]) hnews (bvs_one l') hroom
        (fun j hj => by rw [bvs_len] at hj; rw [hz1, Nat.zero_add, Nat.mul_one]; exact (h4 _ (by omega) (by omega)).1) (fun j hj => by rw [bvs_len] at hj; rw [hz1, Nat.zero_add, Nat.mul_one]; exact (h4 _ (by omega) (by omega)).2)
      rw [hz1, Nat.zero_add, Nat.mul_one] at hr
      refine ⟨_, _, hr, ⟨g, cap, by rw [hlen], hBg, by rw [setCells8_size]; exact hg, by rw [hlen]; exact hroom, h2, fun j hj => ?_, fun j hj hj' => ?_⟩, setCells8_below hBg _ _ _, fun b hb hne => World.heap_setCells_other w g _ _ hb (fun e => hne (by rw [e]; rfl))⟩
      · rw [hlen] at hj
        by_cases hjl : j < l.length
        · rw [World.cell?_setCells_out g _ _ _ ⟨g, j, none⟩ (fun _ _ => Or.inl hjl), h3 j hjl]
          rw [List.getD_eq_getElem?_getD, List.getD_eq_getElem?_getD, List.getElem?_append_left hjl]
        · have hj2 : j - l.length < (bvs l').length := by rw [bvs_len]; omega
          have := World.cell?_setCells_in g (bvs l') l.length w (fun q hq => by rw [bvs_len] at hq; exact (h4 _ (by omega) (by omega)).1) (j - l.length) hj2
          rw [show l.length + (j - l.length) = j by omega] at this
          rw [this, List.getD_eq_getElem?_getD, List.getElem?_append_right (by omega), ← List.getD_eq_getElem?_getD]
          have e := bvs_get (l := l') (j := j - l.length) (by rw [bvs_len] at hj2; exact hj2)
          rw [List.getElem?_eq_getElem hj2] at e
          exact e
      · rw [hlen] at hj
        rw [World.frozen?_setCells, World.cell?_setCells_out g _ _ _ ⟨g, j, none⟩ (fun _ _ => Or.inr (by rw [bvs_len]; exact hj))]
        exact h4 j (by omega) hj'
    · obtain ⟨v', w', hr, hown, hgrow⟩ := run_append_arg_grows (P := Tryd.prog) w 22 ty 5 i0 (.int .u8 0) 1 1 Tryd.underlying22 hi hz0 hz1 hz2 rfl (by decide) ⟨g, 0, none⟩ l.length cap (bvs l) (by rw [bvs_len, Nat.mul_one]) holds
        ad l'.length c (bvs l') (by rw [bvs_len, Nat.mul_one]) hnews (by omega) (by unfold maxLen; omega) (by omega)
      have hb : Below w.heap.size w w' := (Below.refl _ w).grown hgrow (by omega) (fun k hk => by simp at hk)
      rcases hown.2 with ⟨rfl, h0⟩ | ⟨g', cap', cur, rfl, hb', hg', hn', hc', hs', ht'⟩
      · omega
      · have hcell : ∀ j, j < l.length + l'.length → cur[j]? = some (bv ((l ++ l').getD j 0)) := by
          intro j hj
          have e1 : (cur.toList.take ((l.length + l'.length) * 1))[j]? = (bvs l ++ bvs l')[j]? := by rw [ht']
          rw [Nat.mul_one, List.getElem?_take_of_lt hj] at e1
          rw [show cur[j]? = cur.toList[j]? from by simp, e1, show bvs l ++ bvs l' = bvs (l ++ l') by unfold bvs; simp]
          exact bvs_get (by rw [hlen]; exact hj)
        have r : Row w' g' 5 cur := hg'
        refine ⟨_, _, hr, ⟨g', cap', by rw [hlen], by omega, r.lt, by rw [hlen]; exact hn', hc', fun j hj => ?_, fun j hj hj' => ?_⟩, hb.mono hB, fun b hb' _ => hb.block b hb'⟩
        · rw [hlen] at hj; rw [r.cell]; exact hcell j hj
        · exact ⟨by rw [r.cell, Array.getElem?_eq_getElem (by omega)]; rfl, r.froz j⟩
/-- For the walk: an operation that is wanted, guarded or not. -/
theorem wpList_app8k (w : World) {ops : Array Oper} {rest : List Oper} {o : Oper} {a : Act} {Q : Exit → Act → World → Prop} (hgd : Region.wanted o (yielded ops a.tmps) = true) (s x : Operand)
    (ho : o.op = .call { callee := .builtin .append, args := #[s, x], argTypes := #[22, 22] })
    (B : Nat) (v u : Value) (l l' : List UInt8) (hs : a.eval s = v) (hx : a.eval x = u) (hv : Own8 w B v l) (hu : BS w u l') (hmx : l.length + l'.length ≤ 1000000) (hB : B ≤ w.heap.size)
    (h : ∀ v' w', Own8 w' B v' (l ++ l') → Below B w w' → (∀ b, b < w.heap.size → v.ownBlock ≠ some b → w'.heap[b]? = w.heap[b]?) → wpList Tryd.prog ops Q rest (a.put o.dst v') w') : wpList Tryd.prog ops Q (o :: rest) a w := by
  obtain ⟨v', w', hr, h1, h2, h3⟩ := run_app8 w o.type B v u l l' hv hu hmx hB
  refine wpList_step fun K hK => ?_
  rw [if_pos hgd]
  unfold Oper.wp execOp
  simp only [ho, resolve, invoke, builtin, Sem.run_bind, Sem.run_pure, Result.andThen_ok, List.map_toArray, List.map_cons, List.map_nil, hs, hx, hr]
  exact hK _ _ (h v' w' h1 h2 h3)
theorem wpList_app8g (w : World) {ops : Array Oper} {rest : List Oper} {o : Oper} {a : Act} {Q : Exit → Act → World → Prop} (hgd : Region.wanted o (yielded ops a.tmps) = true) (s x : Operand)
    (ho : o.op = .call { callee := .builtin .append, args := #[s, x], argTypes := #[22, 22] })
    (B : Nat) (v u : Value) (l l' : List UInt8) (hs : a.eval s = v) (hx : a.eval x = u) (hv : Own8 w B v l) (hu : BS w u l') (hmx : l.length + l'.length ≤ 1000000) (hB : B ≤ w.heap.size)
    (h : ∀ v' w', Own8 w' B v' (l ++ l') → Below B w w' → wpList Tryd.prog ops Q rest (a.put o.dst v') w') : wpList Tryd.prog ops Q (o :: rest) a w :=
  wpList_app8k w hgd s x ho B v u l l' hs hx hv hu hmx hB (fun v' w' h1 h2 _ => h v' w' h1 h2)
theorem wpList_app8 (w : World) {ops : Array Oper} {rest : List Oper} {o : Oper} {a : Act} {Q : Exit → Act → World → Prop} (hgd : o.guard = none) (s x : Operand)
    (ho : o.op = .call { callee := .builtin .append, args := #[s, x], argTypes := #[22, 22] })
    (B : Nat) (v u : Value) (l l' : List UInt8) (hs : a.eval s = v) (hx : a.eval x = u) (hv : Own8 w B v l) (hu : BS w u l') (hmx : l.length + l'.length ≤ 1000000) (hB : B ≤ w.heap.size)
    (h : ∀ v' w', Own8 w' B v' (l ++ l') → Below B w w' → wpList Tryd.prog ops Q rest (a.put o.dst v') w') : wpList Tryd.prog ops Q (o :: rest) a w :=
  wpList_app8g w (by unfold Region.wanted; rw [hgd]) s x ho B v u l l' hs hx hv hu hmx hB h
end Go.Proofs.YtfecnogmjfmghaaDoor
