/- Lists of decimal digits, and slices that read as them. Nothing of the program but the slice's value. -/
import Derived.WalkKit
import Derived.Lib.Hide
import Derived.Maps.AppendAt
namespace Go.Proofs.YtfecnogmjfmghaaDoor
set_option linter.unusedSimpArgs false
set_option linter.unusedVariables false
open Go.RowKit

/-- The number of a list of digits, the lowest first. -/
def dval : List Nat → Nat | [] => 0 | d :: ds => d + 10 * dval ds
/-- The digits of a number, the lowest first; of 0, none. -/
def dig (n : Nat) : List Nat := if n = 0 then [] else n % 10 :: dig (n / 10)
termination_by n
decreasing_by omega
theorem dig_zero : dig 0 = [] := by rw [dig]; simp
theorem dig_pos {n : Nat} (h : n ≠ 0) : dig n = n % 10 :: dig (n / 10) := by rw [dig]; simp [h]
theorem dval_dig (n : Nat) : dval (dig n) = n := by
  induction n using Nat.strongRecOn with
  | ind n ih =>
    by_cases h : n = 0
    · subst h; rw [dig_zero]; rfl
    · rw [dig_pos h]; simp only [dval]; rw [ih (n / 10) (by omega)]; omega
def Digs (l : List Nat) : Prop := ∀ d ∈ l, d < 10
theorem dig_lt (n : Nat) : Digs (dig n) := by
  induction n using Nat.strongRecOn with
  | ind n ih =>
    by_cases h : n = 0
    · subst h; rw [dig_zero]; intro d hd; cases hd
    · rw [dig_pos h]; intro d hd
      cases hd with
      | head => omega
      | tail _ hd => exact ih (n / 10) (by omega) d hd
theorem dval_append (a b : List Nat) : dval (a ++ b) = dval a + 10 ^ a.length * dval b := by
  induction a with
  | nil => simp [dval]
  | cons d a ih =>
    simp only [List.cons_append, dval, ih, List.length_cons, Nat.pow_succ]
    rw [Nat.mul_add, Nat.mul_comm (10 ^ a.length) 10, Nat.mul_assoc, Nat.add_assoc]
theorem dval_lt {l : List Nat} (h : Digs l) : dval l < 10 ^ l.length := by
  induction l with
  | nil => simp [dval]
  | cons d l ih =>
    have h1 := ih (fun x hx => h x (List.mem_cons_of_mem _ hx))
    have h2 : d < 10 := h d (by simp)
    simp only [dval, List.length_cons, Nat.pow_succ]; omega
theorem dig_unique {l : List Nat} (h : Digs l) (hn : l ≠ [] → 10 ^ (l.length - 1) ≤ dval l) : l = dig (dval l) := by
  induction l with
  | nil => simp [dval, dig_zero]
  | cons d l ih =>
    have h2 : d < 10 := h d (by simp)
    have hl : Digs l := fun x hx => h x (List.mem_cons_of_mem _ hx)
    have h3 := hn (by simp)
    simp only [List.length_cons, Nat.add_sub_cancel, dval] at h3
    have h0 : d + 10 * dval l ≠ 0 := by have := Nat.pow_pos (n := l.length) (by omega : 0 < 10); omega
    simp only [dval]
    rw [dig_pos h0]
    have e1 : (d + 10 * dval l) % 10 = d := by omega
    have e2 : (d + 10 * dval l) / 10 = dval l := by omega
    rw [e1, e2]
    congr 1
    apply ih hl
    intro hne
    have : ∃ k, l.length = k + 1 := by cases l with | nil => exact absurd rfl hne | cons a t => exact ⟨t.length, rfl⟩
    obtain ⟨k, hk⟩ := this
    rw [hk] at h3 ⊢
    rw [Nat.pow_succ] at h3
    simp only [Nat.add_sub_cancel]
    omega
theorem dig_ge {n : Nat} (h : n ≠ 0) : 10 ^ ((dig n).length - 1) ≤ n := by
  induction n using Nat.strongRecOn with
  | ind n ih =>
    rw [dig_pos h]
    simp only [List.length_cons, Nat.add_sub_cancel]
    by_cases h1 : n / 10 = 0
    · rw [h1, dig_zero]; simp; omega
    · have := ih (n / 10) (by omega) h1
      have h2 : ∃ k, (dig (n / 10)).length = k + 1 := by rw [dig_pos h1]; exact ⟨_, rfl⟩
      obtain ⟨k, hk⟩ := h2
      rw [hk] at this ⊢
      rw [Nat.pow_succ]; simp only [Nat.add_sub_cancel] at this; omega
theorem dig_len_lt (n : Nat) : n < 10 ^ (dig n).length := by
  have := dval_lt (dig_lt n); rwa [dval_dig] at this
theorem dig_len_le {n k : Nat} (h : n < 10 ^ k) : (dig n).length ≤ k := by
  by_cases h0 : n = 0
  · subst h0; rw [dig_zero]; simp
  · have h1 := dig_ge h0
    rcases Nat.lt_or_ge k (dig n).length with h2 | h2
    · have : 10 ^ k ≤ 10 ^ ((dig n).length - 1) := Nat.pow_le_pow_right (by omega) (by omega)
      omega
    · exact h2
theorem dig_len_iff (n k : Nat) : (dig n).length ≤ k ↔ n < 10 ^ k :=
  ⟨fun h => Nat.lt_of_lt_of_le (dig_len_lt n) (Nat.pow_le_pow_right (by omega) h), dig_len_le⟩
theorem dig_inj {a b : Nat} (h : dig a = dig b) : a = b := by rw [← dval_dig a, h, dval_dig]
/-- digits that are dropped, and those that stay. -/
theorem dval_take_drop (l : List Nat) (i : Nat) (h : i ≤ l.length) : dval l = dval (l.take i) + 10 ^ i * dval (l.drop i) := by
  conv => lhs; rw [← List.take_append_drop i l, dval_append, List.length_take, Nat.min_eq_left h]
theorem dig_drop (n k : Nat) : (dig n).drop k = dig (n / 10 ^ k) := by
  induction k generalizing n with
  | zero => simp
  | succ k ih =>
    by_cases h : n = 0
    · subst h; rw [dig_zero]; simp [dig_zero]
    · rw [dig_pos h, List.drop_succ_cons, ih, Nat.pow_succ, Nat.div_div_eq_div_mul, Nat.mul_comm 10]
/-- Compared from the top. -/
theorem dval_lt_of_top {a b : List Nat} (ha : Digs a) (hl : a.length = b.length) {i : Nat} (hi : i < a.length)
    (hd : a.drop (i + 1) = b.drop (i + 1)) (hlt : a[i] < b[i]'(hl ▸ hi)) : dval a < dval b := by
  have e1 := dval_take_drop a i (by omega)
  have e2 := dval_take_drop b i (by omega)
  rw [List.drop_eq_getElem_cons hi] at e1
  rw [List.drop_eq_getElem_cons (hl ▸ hi)] at e2
  have h1 := dval_lt (l := a.take i) (fun x hx => ha x (List.mem_of_mem_take hx))
  rw [List.length_take, Nat.min_eq_left (by omega)] at h1
  simp only [dval] at e1 e2
  rw [hd] at e1
  have h2 : 10 ^ i * (a[i] + 10 * dval (b.drop (i + 1))) + 10 ^ i ≤ 10 ^ i * (b[i] + 10 * dval (b.drop (i + 1))) := by
    rw [← Nat.mul_succ]; exact Nat.mul_le_mul_left _ (by omega)
  omega

/-! ## Slices of digits -/
def iv (n : Nat) : Value := .int .i64 (n : Int)
def ivs (l : List Nat) : List Value := l.map iv
theorem ivs_len (l : List Nat) : (ivs l).length = l.length := by simp [ivs]
theorem ivs_get (l : List Nat) (j : Nat) (u : Value) (h : (ivs l)[j]? = some u) : j < l.length ∧ u = .int .i64 ((l.getD j 0 : Nat) : Int) := by
  unfold ivs at h
  rw [List.getElem?_map] at h
  cases hj : l[j]? with
  | none => rw [hj] at h; cases h
  | some x =>
    rw [hj] at h
    obtain ⟨hlt, e⟩ := List.getElem?_eq_some_iff.1 hj
    refine ⟨hlt, ?_⟩
    simp only [Option.map_some, Option.some.injEq] at h
    rw [← h, List.getD_eq_getElem?_getD, hj]; rfl
theorem ivs_one (l : List Nat) : ∀ u ∈ ivs l, u.oneCell' = true := by
  intro u hu; unfold ivs at hu; obtain ⟨n, _, rfl⟩ := List.mem_map.1 hu; rfl
theorem ivs_append (a b : List Nat) : ivs (a ++ b) = ivs a ++ ivs b := by simp [ivs]
/-- The slice .slice A (length of l) c reads as the list l, and lies in a block of ints. -/
def Ints (w : World) (A : Option Addr) (c : Nat) (l : List Nat) : Prop :=
  l.length ≤ c ∧ c ≤ maxLen ∧ (l ≠ [] → ∃ b off cur, A = some ⟨b, off, none⟩ ∧ w.heap[b]? = some (.cells cur 3 (0, 0)) ∧ ∀ j, j < l.length → cur[off + j]? = some (.int .i64 ((l.getD j 0 : Nat) : Int)))
theorem Ints.at_ {w : World} {A : Option Addr} {c : Nat} {l : List Nat} (h : Ints w A c l) (hn : l ≠ []) :
    ∃ b off, A = some ⟨b, off, none⟩ ∧ b < w.heap.size ∧ ∀ j, j < l.length → w.cell? ⟨b, off + j, none⟩ = some (.int .i64 ((l.getD j 0 : Nat) : Int)) := by
  obtain ⟨b, off, cur, e, hb, hc⟩ := h.2.2 hn
  exact ⟨b, off, e, (Array.getElem?_eq_some_iff.1 hb).1, fun j hj => (cell_of_row w b (off + j) cur _ (0, 0) hb).trans (hc j hj)⟩
theorem Ints.on {w w' : World} {A : Option Addr} {c : Nat} {l : List Nat} (h : Ints w A c l) (k : Below w.heap.size w w') : Ints w' A c l := by
  refine ⟨h.1, h.2.1, fun hn => ?_⟩
  obtain ⟨b, off, cur, e, hb, hc⟩ := h.2.2 hn
  exact ⟨b, off, cur, e, (k.block b (Array.getElem?_eq_some_iff.1 hb).1).trans hb, hc⟩
/-- A store into a block of another type. -/
theorem Ints.far {w : World} {A : Option Addr} {c : Nat} {l : List Nat} (h : Ints w A c l) {g : Nat} {T : TypeId} {cs : Array Value} (hg : w.heap[g]? = some (.cells cs T (0, 0))) (hT : T ≠ 3) (i : Nat) (u : Value) :
    Ints (w.setCell ⟨g, i, none⟩ u) A c l := by
  refine ⟨h.1, h.2.1, fun hn => ?_⟩
  obtain ⟨b, off, cur, e, hb, hc⟩ := h.2.2 hn
  refine ⟨b, off, cur, e, (Below.heap_setCell w ⟨g, i, none⟩ u b ?_).trans hb, hc⟩
  rintro rfl
  rw [hb] at hg
  simp only [Option.some.injEq, Obj.cells.injEq] at hg
  exact hT hg.2.1.symm
theorem Ints.nil (w : World) : Ints w none 0 [] := ⟨Nat.le_refl _, by simp [maxLen], fun h => absurd rfl h⟩
theorem Ints.of_own {w : World} {base : Nat} {v : Value} {n : Nat} {l : List Nat} (h : w.ownsRow base 3 1 v n (ivs l)) : ∃ A c, v = .slice A l.length c ∧ Ints w A c l := by
  have hl : l.length = n := by have := h.1; rw [ivs_len] at this; omega
  rcases h.2 with ⟨rfl, rfl⟩ | ⟨g, cap, cur, rfl, hb, hg, hn, hc, hs, ht⟩
  · have : l = [] := List.eq_nil_of_length_eq_zero hl
    subst this; exact ⟨none, 0, rfl, Ints.nil w⟩
  · subst hl
    refine ⟨_, cap, rfl, hn, hc, fun hne => ⟨g, 0, cur, rfl, hg, fun j hj => ?_⟩⟩
    have h1 : (cur.toList.take (l.length * 1))[j]? = (ivs l)[j]? := by rw [ht]
    rw [Nat.mul_one, List.getElem?_take_of_lt hj] at h1
    rw [Nat.zero_add, show cur[j]? = cur.toList[j]? from by simp, h1]
    unfold ivs
    rw [List.getElem?_map, List.getElem?_eq_getElem hj, List.getD_eq_getElem?_getD, List.getElem?_eq_getElem hj]; rfl
theorem add_lit' (b off j : Nat) : (⟨b, off, none⟩ : Addr).add j = ⟨b, off + j, none⟩ := by unfold Addr.add; split <;> simp_all
/-- What append asks of its source. -/
theorem Ints.news {w : World} {b off : Nat} {l : List Nat} (hc : ∀ j, j < l.length → w.cell? ⟨b, off + j, none⟩ = some (.int .i64 ((l.getD j 0 : Nat) : Int))) :
    ∀ j u, (ivs l)[j]? = some u → w.cell? ((⟨b, off, none⟩ : Addr).add j) = some u := by
  intro j u h
  obtain ⟨hj, rfl⟩ := ivs_get l j u h
  rw [add_lit']; exact hc j hj
theorem take_getD (l : List Nat) {k j : Nat} (h : j < k) : (l.take k).getD j 0 = l.getD j 0 := by
  rw [List.getD_eq_getElem?_getD, List.getD_eq_getElem?_getD, List.getElem?_take_of_lt h]
theorem take_succ_getD (l : List Nat) {k : Nat} (h : k < l.length) : l.take (k + 1) = l.take k ++ [l.getD k 0] := by
  rw [List.take_succ_eq_append_getElem h, List.getD_eq_getElem?_getD, List.getElem?_eq_getElem h]; rfl
theorem drop_getD (l : List Nat) {k : Nat} (h : k < l.length) : l.drop k = l.getD k 0 :: l.drop (k + 1) := by
  rw [List.drop_eq_getElem_cons h, List.getD_eq_getElem?_getD, List.getElem?_eq_getElem h]; rfl
theorem Digs.getD {l : List Nat} (h : Digs l) (k : Nat) : l.getD k 0 < 10 := by
  rw [List.getD_eq_getElem?_getD]
  cases hk : l[k]? with
  | none => simp
  | some x => exact h x (List.mem_of_getElem? hk)
theorem Digs.take {l : List Nat} (h : Digs l) (k : Nat) : Digs (l.take k) := fun x hx => h x (List.mem_of_mem_take hx)
theorem Digs.drop {l : List Nat} (h : Digs l) (k : Nat) : Digs (l.drop k) := fun x hx => h x (List.mem_of_mem_drop hx)
theorem Digs.app {a b : List Nat} (h : Digs a) (k : Digs b) : Digs (a ++ b) := fun x hx => (List.mem_append.1 hx).elim (h x) (k x)
theorem Digs.nil : Digs [] := fun x hx => (by cases hx)
theorem Digs.one {d : Nat} (h : d < 10) : Digs [d] := fun x hx => by simp at hx; omega
theorem one_news (w : World) (T : TypeId) (z : Int) : ∀ (j : Nat) (u : Value), [Value.int .i64 z][j]? = some u → (w.alloc (.cells #[.int .i64 z] T)).cell? ((⟨w.heap.size, 0, none⟩ : Addr).add j) = some u := by
  intro j u h
  cases j with
  | zero =>
    simp at h; subst h
    rw [add_lit', cell_of_row _ w.heap.size (0 + 0) #[Value.int .i64 z] T (0, 0) (heap_alloc_new w _)]; rfl
  | succ j => simp at h
theorem one_one (z : Int) : ∀ u ∈ [Value.int .i64 z], u.oneCell' = true := by intro u hu; simp at hu; subst hu; rfl
theorem alloc_le {w : World} {o : Obj} {B : Nat} (h : B ≤ w.heap.size) : B ≤ (w.alloc o).heap.size := by simp; omega
theorem small_max {n : Nat} (h : n ≤ 100000) : n ≤ maxLen ∧ n * 8 ≤ 140737488355328 := by simp only [maxLen]; omega
theorem own_below {B : Nat} {a w w1 : World} {o : Obj} {E : TypeId} {v : Value} {n : Nat} {xs : List Value} (h : Below B a w) (hB : B ≤ w.heap.size) (hown : w.ownsRow B E 1 v n xs) (hg : (w.alloc o).grownBy w1 v.ownBlock) : Below B a w1 :=
  (h.alloc hB o).grown hg (by simp; omega) (fun k hk => (hown.lt k hk).1)

section
variable {P : Program}
theorem run_app_none (w : World) (base : Nat) (t ty e : TypeId) (i : TypeInfo) (ht : P.underlying t = some (.slice e)) (hi : P.info? e = some i)
    (v : Value) (n : Nat) (xs : List Value) (hown : w.ownsRow base e 1 v n xs) (c : Nat) : (Builtin.append_ #[t, t] ty #[v, .slice none 0 c]).run P w = .ok v w := by
  rcases hown.2 with ⟨rfl, rfl⟩ | ⟨g, cap, cur, rfl, _, _, hnc, _⟩
  · simp [Builtin.append_, run_underlying ht, sizeOf, typeInfo, hi, Builtin.lenOf, Builtin.firstCells]
  · simp [Builtin.append_, run_underlying ht, sizeOf, typeInfo, hi, Builtin.lenOf, Builtin.firstCells, hnc, storeCells]
/-- A slice of digits, nil let in, put behind a row of the call's own. -/
theorem wpList_app_ints (w : World) {ops : Array Oper} {rest : List Oper} {o : Oper} {a : Act} {Q : Exit → Act → World → Prop} (hgd : o.guard = none) (s x : Operand) (t : TypeId)
    (ho : o.op = .call { callee := .builtin .append, args := #[s, x], argTypes := #[t, t] })
    (base : Nat) (i : TypeInfo) (ht : P.underlying t = some (.slice 3)) (hi : P.info? 3 = some i) (hz : i.zero = some (.int .i64 0)) (hsize : i.size = 1) (hby : i.bytes = 8)
    (v : Value) (n : Nat) (xs : List Nat) (hs : a.eval s = v) (hown : w.ownsRow base 3 1 v n (ivs xs))
    (A : Option Addr) (c : Nat) (l : List Nat) (hx : a.eval x = .slice A l.length c) (hI : Ints w A c l)
    (hmx : n + l.length ≤ 100000) (hbase : base ≤ w.heap.size)
    (h : ∀ v' w', w'.ownsRow base 3 1 v' (n + l.length) (ivs (xs ++ l)) → w.grownBy w' v.ownBlock → wpList P ops Q rest (a.put o.dst v') w') : wpList P ops Q (o :: rest) a w := by
  have hm := small_max hmx
  have key : ∃ v' w', (Builtin.append_ #[t, t] o.type #[v, .slice A l.length c]).run P w = .ok v' w' ∧ w'.ownsRow base 3 1 v' (n + l.length) (ivs xs ++ ivs l) ∧ w.grownBy w' v.ownBlock := by
    cases A with
    | none =>
      have hl : l = [] := by
        by_cases hn : l = []
        · exact hn
        · obtain ⟨b, off, e, _⟩ := hI.at_ hn
          cases e
      subst hl
      exact ⟨v, w, run_app_none w base t o.type _ i ht hi v n _ hown c, by simpa [ivs] using hown, World.grownBy.refl w _⟩
    | some ad =>
      have hnews : ∀ j u, (ivs l)[j]? = some u → w.cell? (ad.add j) = some u := by
        intro j u hu
        by_cases hn : l = []
        · subst hn; simp [ivs] at hu
        · obtain ⟨b, off, e, _, hc⟩ := hI.at_ hn
          cases e
          exact Ints.news hc j u hu
      obtain ⟨v', w', hr, h2, h3, _, _⟩ := run_append_own_at (P := P) w base t o.type 3 i (.int .i64 0) 1 8 ht hi hz hsize hby rfl (by decide) v n (ivs xs) hown ad l.length c (ivs l) (by rw [ivs_len, Nat.mul_one]) hnews (ivs_one l) hm.1 hm.2 hbase
      exact ⟨v', w', hr, h2, h3⟩
  obtain ⟨v', w', hr, h2, h3⟩ := key
  refine wpList_plain hgd fun K hK => ?_
  unfold Oper.wp execOp
  simp only [ho, resolve, invoke, builtin, Sem.run_bind, Sem.run_pure, Result.andThen_ok, List.map_toArray, List.map_cons, List.map_nil, hs, hx, hr]
  exact hK _ _ (h v' w' (by rw [ivs_append]; exact h2) h3)
end
end Go.Proofs.YtfecnogmjfmghaaDoor
