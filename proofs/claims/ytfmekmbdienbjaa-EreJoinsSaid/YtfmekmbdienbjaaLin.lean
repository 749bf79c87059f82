/- A region that draws its order, op by op: each operation is shown once, whatever came up ahead of it. Nothing of the program. -/
import Derived.Deep.RegionHeld3
import Derived.WalkKit
import Derived.Lib.Hide
namespace Go.Proofs.Ytfmekmbdienbjaa
set_option linter.unusedSimpArgs false
set_option linter.unusedVariables false
open Go.RowKit

/-- What an operation left, the value of one other operation, and the world. -/
abbrev Rel := Nat → Value → Value → World → Prop

def putAll : List Oper → Nat → (Nat → Value) → Act → Act
  | [], _, _, a => a
  | o :: os, i, vs, a => putAll os (i + 1) vs (a.put o.dst (vs i))
def upd (vs : Nat → Value) (i : Nat) (v : Value) : Nat → Value := fun j => if j = i then v else vs j
theorem upd_same (vs : Nat → Value) (i : Nat) (v : Value) : upd vs i v i = v := by simp [upd]
theorem upd_other {vs : Nat → Value} {i j : Nat} {v : Value} (h : j ≠ i) : upd vs i v j = vs j := by simp [upd, h]

def apartFrom (d : Option Tmp) (os : List Oper) : Bool := match d with
  | none => true
  | some t => os.all fun o => !(o.dst == some t)
def distinctDst : List Oper → Bool
  | [] => true
  | o :: os => apartFrom o.dst os && distinctDst os

theorem put_put (a : Act) (d : Option Tmp) (v u : Value) : (a.put d v).put d u = a.put d u := by
  cases d with
  | none => rfl
  | some t => simp [Act.put]
theorem putAll_put {d : Option Tmp} {v : Value} : ∀ (os : List Oper) (i : Nat) (vs : Nat → Value) (a : Act), apartFrom d os = true → putAll os i vs (a.put d v) = (putAll os i vs a).put d v
  | [], _, _, _, _ => rfl
  | o :: os, i, vs, a, h => by
    cases d with
    | none => rfl
    | some t =>
      simp only [apartFrom, List.all_cons, Bool.and_eq_true, Bool.not_eq_true', beq_eq_false_iff_ne] at h
      show putAll os (i + 1) vs ((a.put (some t) v).put o.dst (vs i)) = _
      rw [Act.put_comm a v (vs i) (x := some t) (y := o.dst) (fun d hd => by cases hd; exact h.1)]
      exact putAll_put os (i + 1) vs _ (by simp [apartFrom, h.2])
theorem putAll_upd_lt {i : Nat} {v : Value} : ∀ (os : List Oper) (n : Nat) (vs : Nat → Value) (a : Act), i < n → putAll os n (upd vs i v) a = putAll os n vs a
  | [], _, _, _, _ => rfl
  | o :: os, n, vs, a, h => by
    show putAll os (n + 1) (upd vs i v) (a.put o.dst (upd vs i v n)) = _
    rw [upd_other (by omega), putAll_upd_lt os (n + 1) vs _ (by omega)]; rfl
theorem putAll_upd {v : Value} : ∀ (os : List Oper) (n k : Nat) (vs : Nat → Value) (a : Act) (o : Oper), distinctDst os = true → os[k]? = some o →
    putAll os n (upd vs (n + k) v) a = (putAll os n vs a).put o.dst v
  | [], _, _, _, _, _, _, h => by cases h
  | p :: os, n, 0, vs, a, o, hd, h => by
    have e : p = o := by simpa using h
    subst e
    simp only [distinctDst, Bool.and_eq_true] at hd
    show putAll os (n + 1) (upd vs n v) (a.put p.dst (upd vs n v n)) = (putAll os (n + 1) vs (a.put p.dst (vs n))).put p.dst v
    rw [upd_same, putAll_upd_lt os (n + 1) vs _ (by omega), ← putAll_put os (n + 1) vs _ hd.1, put_put]
  | p :: os, n, k + 1, vs, a, o, hd, h => by
    simp only [distinctDst, Bool.and_eq_true] at hd
    show putAll os (n + 1) (upd vs (n + (k + 1)) v) (a.put p.dst (upd vs (n + (k + 1)) v n)) = _
    rw [upd_other (by omega), show n + (k + 1) = n + 1 + k from by omega]
    exact putAll_upd os (n + 1) k vs _ o hd.2 (by simpa using h)
theorem put_self (a : Act) (d : Option Tmp) : a.put d (match d with | some t => a.tmps.getD t undef | none => undef) = a := by
  cases d with
  | none => rfl
  | some t =>
    cases a with
    | mk tm df =>
      simp only [Act.put]
      congr 1
      apply Array.ext_getElem?
      intro i
      rw [Array.getElem?_setIfInBounds]
      split
      · rename_i e; subst e
        split
        · rename_i h; simp [h]
        · rename_i h; simp [Array.getElem?_eq_none (Nat.le_of_not_lt h)]
      · rfl
def ownVal (a : Act) (d : Option Tmp) : Value := match d with | some t => a.tmps.getD t undef | none => undef
theorem putAll_self (ops : List Oper) (a : Act) : ∀ (os : List Oper) (n : Nat) (vs : Nat → Value), (∀ k o, os[k]? = some o → vs (n + k) = ownVal a o.dst) → putAll os n vs a = a
  | [], _, _, _ => rfl
  | o :: os, n, vs, h => by
    have h0 := h 0 o rfl
    show putAll os (n + 1) vs (a.put o.dst (vs n)) = a
    rw [show vs n = ownVal a o.dst from h0, show a.put o.dst (ownVal a o.dst) = a from put_self a o.dst]
    exact putAll_self ops a os (n + 1) vs (fun k p hk => by
      have := h (k + 1) p (by simpa using hk)
      rwa [show n + (k + 1) = n + 1 + k from by omega] at this)

/-- What an operation's forerunners left. -/
def DepsR (md : Region.Mode) (R : Rel) (t : Nat → Nat) (vs : Nat → Value) (w : World) : List Edge → Prop
  | [] => True
  | e :: es => (Region.binds md e = true → R e.on (vs e.on) (vs (t e.on)) w) ∧ DepsR md R t vs w es
theorem depsR_of {md : Region.Mode} {R : Rel} {t : Nat → Nat} {vs : Nat → Value} {w : World} : ∀ (es : List Edge), (∀ e ∈ es, Region.binds md e = true → R e.on (vs e.on) (vs (t e.on)) w) → DepsR md R t vs w es
  | [], _ => trivial
  | e :: es, h => ⟨h e (by simp), depsR_of es fun e' he' => h e' (by simp [he'])⟩

/-- Where the value of the other operation is asked, that one came up ahead; an edge leads back. -/
def linOK (md : Region.Mode) (ops : Array Oper) (t : Nat → Nat) : Bool :=
  distinctDst ops.toList &&
  (List.range ops.size).all fun i => match ops[i]? with
    | some o => (o.after.all fun e => !Region.binds md e || decide (e.on < i)) && (t i == i || o.after.any fun e => Region.binds md e && e.on == t i)
    | none => true

/-- A loud operation does not write into a block that it makes itself. -/
def loudOK (ops : Array Oper) (t : Nat → Nat) (al loud : Nat → Bool) : Bool := (List.range ops.size).all fun i => !(loud i && al (t i) && t i == i)
/-- How an operation turned the world: it made memory at most; or, of a loud one, all that stood of the others stands. -/
def Turned (R : Rel) (t : Nat → Nat) (al : Nat → Bool) (F : World → Prop) (loud : Bool) (vs : Nat → Value) (i : Nat) (w w' : World) : Prop :=
  match loud with
  | false => Below w.heap.size w w'
  | true => F w' ∧ ∀ j, j ≠ i → (al (t j) = true → al (t i) = true → t j ≠ t i → vs (t j) ≠ vs (t i)) → R j (vs j) (vs (t j)) w → R j (vs j) (vs (t j)) w'

/-- One operation's own obligation. -/
def Obl (P : Program) (md : Region.Mode) (ops : Array Oper) (R : Rel) (t : Nat → Nat) (al : Nat → Bool) (F : World → Prop) (loud : Bool) (i : Nat) (o : Oper) (a : Act) (vs : Nat → Value) : Prop :=
  ∀ (w : World), F w → DepsR md R t vs w o.after.toList → ∀ (Q : Exit → Act → World → Prop) (K : Act → World → Prop),
    Shut (∀ a' v w', a' = a.put o.dst v → Turned R t al F loud vs i w w' → R i v (if t i = i then v else vs (t i)) w' → (al i = true → ∃ b, v = .pointer (some ⟨b, 0, none⟩) ∧ w.heap.size ≤ b) → K a' w') →
    if Region.wanted o (yielded ops a.tmps) = true then o.wp P a w K Q else K (a.put o.dst undef) w
def Obls (P : Program) (md : Region.Mode) (ops : Array Oper) (R : Rel) (t : Nat → Nat) (al : Nat → Bool) (F : World → Prop) (loud : Nat → Bool) (a : Act) (vs : Nat → Value) : Nat → List Oper → Prop
  | _, [] => True
  | i, o :: os => Obl P md ops R t al F (loud i) i o a vs ∧ Obls P md ops R t al F loud a vs (i + 1) os
theorem obls_at {P : Program} {md : Region.Mode} {ops : Array Oper} {R : Rel} {t : Nat → Nat} {al : Nat → Bool} {F : World → Prop} {loud : Nat → Bool} {a : Act} {vs : Nat → Value} :
    ∀ (os : List Oper) (n k : Nat) (o : Oper), Obls P md ops R t al F loud a vs n os → os[k]? = some o → Obl P md ops R t al F (loud (n + k)) (n + k) o a vs
  | [], _, _, _, _, h => by cases h
  | p :: os, n, 0, o, h, ho => by
    have e : p = o := by simpa using ho
    subst e; exact h.1
  | p :: os, n, k + 1, o, h, ho => by
    have := obls_at os (n + 1) k o h.2 (by simpa using ho)
    rwa [show n + 1 + k = n + (k + 1) from by omega] at this
/-- All that the operations left. -/
def AllR (R : Rel) (t : Nat → Nat) (vs : Nat → Value) (w : World) : Nat → List Oper → Prop
  | _, [] => True
  | i, _ :: os => R i (vs i) (vs (t i)) w ∧ AllR R t vs w (i + 1) os
theorem allR_of {R : Rel} {t : Nat → Nat} {vs : Nat → Value} {w : World} : ∀ (os : List Oper) (n : Nat), (∀ k, k < os.length → R (n + k) (vs (n + k)) (vs (t (n + k))) w) → AllR R t vs w n os
  | [], _, _ => trivial
  | o :: os, n, h => ⟨h 0 (by simp), allR_of os (n + 1) fun k hk => by
      have := h (k + 1) (by simpa using hk)
      rwa [show n + (k + 1) = n + 1 + k from by omega] at this⟩

structure Inv (md : Region.Mode) (ops : Array Oper) (R : Rel) (t : Nat → Nat) (al : Nat → Bool) (F : World → Prop) (a0 : Act) (listed : Array Bool) (a : Act) (w : World) (vs : Nat → Value) : Prop where
  size : listed.size = ops.size
  fr : F w
  act : a = putAll ops.toList 0 vs a0
  rel : ∀ j, listed.getD j false = true → R j (vs j) (vs (t j)) w
  dis : ∀ i j, al i = true → al j = true → i ≠ j → listed.getD i false = true → listed.getD j false = true → vs i ≠ vs j
  closed : ∀ j o, ops[j]? = some o → listed.getD j false = true → ∀ e ∈ o.after, Region.binds md e = true → listed.getD e.on false = true

section
variable {P : Program} {md : Region.Mode} {ops : Array Oper} {R : Rel} {t : Nat → Nat} {al : Nat → Bool} {F : World → Prop} {loud : Nat → Bool} {a0 : Act} {Q : Exit → Act → World → Prop}

theorem inv_end (hback : ∀ i o, ops[i]? = some o → ∀ e ∈ o.after, Region.binds md e = true → e.on < i)
    {listed : Array Bool} (hs : listed.size = ops.size) (hr : Region.ready md ops listed = []) : ∀ k, k < ops.size → listed.getD k false = true := by
  intro k
  induction k using Nat.strongRecOn with
  | ind k ih =>
    intro hk
    cases hc : listed.getD k false with
    | true => rfl
    | false =>
      exfalso
      have hin : k ∈ Region.ready md ops listed := by
        rw [mem_ready]
        refine ⟨?_, ops[k], Array.getElem?_eq_getElem hk, fun e he hb => ?_⟩
        · have hl : k < listed.size := by omega
          simp [hl] at hc ⊢; exact hc
        · have hlt := hback k ops[k] (Array.getElem?_eq_getElem hk) e he hb
          exact ih e.on hlt (by omega)
      rw [hr] at hin; cases hin

def left (listed : Array Bool) : Nat := listed.toList.countP (fun b => !b)
theorem left_set {listed : Array Bool} {i : Nat} (h : listed.getD i true = false) : left (listed.setIfInBounds i true) + 1 = left listed := by
  have hi : i < listed.size := by
    rcases Nat.lt_or_ge i listed.size with h' | h'
    · exact h'
    · simp [Array.getElem?_eq_none h'] at h
  have hg : listed[i] = false := by simpa [hi] using h
  unfold left
  rw [Array.toList_setIfInBounds]
  have hl : i < listed.toList.length := by simpa using hi
  rw [List.countP_set hl]
  have : listed.toList[i] = false := by simpa using hg
  simp only [this]
  have hpos : 0 < listed.toList.countP (fun b => !b) := List.countP_pos_iff.2 ⟨listed.toList[i], List.getElem_mem hl, by simp [this]⟩
  simp only [Bool.not_false, Bool.not_true, if_true, Bool.false_eq_true, if_false]; omega

theorem lin_core (hok : linOK md ops t = true) (hloud : loudOK ops t al loud = true) (hst : ∀ w w', F w → Below w.heap.size w w' → F w')
    (hstR : ∀ j v u w w', R j v u w → F w → Below w.heap.size w w' → R j v u w')
    (hal : ∀ j v u w, al j = true → R j v u w → ∃ b, v = .pointer (some ⟨b, 0, none⟩) ∧ b < w.heap.size)
    (hob : ∀ vs, Obls P md ops R t al F loud (putAll ops.toList 0 vs a0) vs 0 ops.toList)
    (hend : ∀ vs w, F w → AllR R t vs w 0 ops.toList → (∀ i j, al i = true → al j = true → i ≠ j → i < ops.size → j < ops.size → vs i ≠ vs j) → Q .normal (putAll ops.toList 0 vs a0) w) :
    ∀ (fuel : Nat) (listed : Array Bool) (a : Act) (w : World) (vs : Nat → Value), left listed ≤ fuel → Inv md ops R t al F a0 listed a w vs → wpAny P md ops Q fuel listed a w := by
  simp only [linOK, Bool.and_eq_true] at hok
  obtain ⟨hdist, hall⟩ := hok
  have hpart : ∀ i o, ops[i]? = some o → (∀ e ∈ o.after, Region.binds md e = true → e.on < i) ∧ (t i = i ∨ ∃ e ∈ o.after, Region.binds md e = true ∧ e.on = t i) := by
    intro i o ho
    have hi : i < ops.size := (Array.getElem?_eq_some_iff.1 ho).1
    have h := List.all_eq_true.1 hall i (List.mem_range.2 hi)
    simp only [ho, Bool.and_eq_true, Array.all_eq_true_iff_forall_mem, Bool.or_eq_true, Bool.not_eq_true', decide_eq_true_eq, beq_iff_eq, Array.any_eq_true] at h
    refine ⟨fun e he hb => (h.1 e he).resolve_left (by simp [hb]), ?_⟩
    rcases h.2 with h | ⟨k, hk, h1, h2⟩
    · exact .inl h
    · exact .inr ⟨ops[i].after[k]'(by
        have : ops[i] = o := (Array.getElem?_eq_some_iff.1 ho).2
        rw [this]; exact hk), by
        have : ops[i] = o := (Array.getElem?_eq_some_iff.1 ho).2
        simp only [this]; exact Array.getElem_mem _, by
        have : ops[i] = o := (Array.getElem?_eq_some_iff.1 ho).2
        simp only [this]; exact h1, by
        have : ops[i] = o := (Array.getElem?_eq_some_iff.1 ho).2
        simp only [this]; exact h2⟩
  have hback : ∀ i o, ops[i]? = some o → ∀ e ∈ o.after, Region.binds md e = true → e.on < i := fun i o ho => (hpart i o ho).1
  have hfin : ∀ listed a w vs, Inv md ops R t al F a0 listed a w vs → Region.ready md ops listed = [] → Q .normal a w := by
    intro listed a w vs hI hr
    rw [hI.act]
    exact hend vs w hI.fr (allR_of _ _ fun k hk => by
      rw [Nat.zero_add]
      exact hI.rel k (inv_end hback hI.size hr k (by simpa using hk))) (fun i j hi hj hne hik hjk => hI.dis i j hi hj hne (inv_end hback hI.size hr i hik) (inv_end hback hI.size hr j hjk))
  intro fuel
  induction fuel with
  | zero =>
    intro listed a w vs hl hI
    have hr : Region.ready md ops listed = [] := by
      apply List.eq_nil_iff_forall_not_mem.2
      intro i hi
      have h0 := (mem_ready.1 hi).1
      have := left_set h0
      omega
    exact ⟨hr, hfin _ _ _ _ hI hr⟩
  | succ fuel ih =>
    intro listed a w vs hl hI
    refine ⟨hfin _ _ _ _ hI, fun i hi => ?_⟩
    obtain ⟨h0, o, ho, hafter⟩ := mem_ready.1 hi
    have hil : i < listed.size := by
      rcases Nat.lt_or_ge i listed.size with h' | h'
      · exact h'
      · simp [Array.getElem?_eq_none h'] at h0
    have hob' := obls_at ops.toList 0 i o (hob vs) (by simpa using ho)
    rw [Nat.zero_add] at hob'
    have hget : ∀ j, (listed.setIfInBounds i true).getD j false = true → j ≠ i → listed.getD j false = true := fun j hj hne => by
      rwa [getD_set_ne false (Ne.symm hne)] at hj
    have hti : t i = i ∨ listed.getD (t i) false = true := by
      rcases (hpart i o ho).2 with h | ⟨e, he, hb, h⟩
      · exact .inl h
      · exact .inr (h ▸ hafter e he hb)
    have hfalse : listed.getD i false = false := by simp [hil] at h0 ⊢; exact h0
    have hloudI : loud i = true → al (t i) = true → t i ≠ i := by
      intro h1 h2 h3
      have hi : i < ops.size := (Array.getElem?_eq_some_iff.1 ho).1
      have h := List.all_eq_true.1 hloud i (List.mem_range.2 hi)
      rw [h1, h2, h3] at h
      simp at h
    refine wpOp_step ho fun K hK => ?_
    rw [hI.act]
    refine hob' w hI.fr (depsR_of _ fun e he hb => hI.rel _ (hafter e (by simpa using he) hb)) Q K ?_
    intro a' v w' ha hT hR hA
    refine hK a' w' (ih _ a' w' (upd vs i v) (by have := left_set h0; omega) ?_)
    have hF' : F w' := by
      cases hlo : loud i with
      | false => rw [hlo] at hT; exact hst w w' hI.fr hT
      | true => rw [hlo] at hT; exact hT.1
    refine ⟨by simp [hI.size], hF', ?_, ?_, ?_, ?_⟩
    · rw [ha]
      have := putAll_upd (v := v) ops.toList 0 i vs a0 o hdist (by simpa using ho)
      rw [Nat.zero_add] at this
      exact this.symm
    · intro j hj
      by_cases hji : j = i
      · subst hji
        rw [upd_same]
        by_cases htj : t j = j
        · rw [if_pos htj] at hR; rw [htj, upd_same]; exact hR
        · rw [if_neg htj] at hR; rw [upd_other htj]; exact hR
      · have hlj := hget j hj hji
        have hrj := hI.rel j hlj
        have hjs : j < ops.size := by
          rcases Nat.lt_or_ge j listed.size with h' | h'
          · rw [hI.size] at h'; exact h'
          · simp [Array.getElem?_eq_none h'] at hlj
        have htj : t j ≠ i := by
          rcases (hpart j ops[j] (Array.getElem?_eq_getElem hjs)).2 with h | ⟨e, he, hb, h⟩
          · rw [h]; exact hji
          · intro e2
            have := hI.closed j _ (Array.getElem?_eq_getElem hjs) hlj e he hb
            rw [h, e2, hfalse] at this; cases this
        rw [upd_other hji, upd_other htj]
        cases hlo : loud i with
        | false => rw [hlo] at hT; exact hstR j _ _ w w' hrj hI.fr hT
        | true =>
          rw [hlo] at hT
          refine hT.2 j hji (fun h1 h2 h3 => ?_) hrj
          have hlt : listed.getD (t j) false = true := by
            rcases (hpart j ops[j] (Array.getElem?_eq_getElem hjs)).2 with h | ⟨e, he, hb, h⟩
            · rw [h]; exact hlj
            · rw [← h]; exact hI.closed j _ (Array.getElem?_eq_getElem hjs) hlj e he hb
          rcases hti with h | h
          · exact absurd h (hloudI hlo h2)
          · exact hI.dis _ _ h1 h2 h3 hlt h
    · intro p q hp hq hne hlp hlq
      have hold : ∀ x, al x = true → listed.getD x false = true → al i = true → vs x ≠ v := by
        intro x hx hlx hi2 e
        obtain ⟨b, hv, hb⟩ := hA hi2
        obtain ⟨b', hv', hb'⟩ := hal x _ _ w hx (hI.rel x hlx)
        rw [hv', hv] at e
        simp at e
      by_cases hpi : p = i
      · subst hpi
        have hqi : q ≠ p := Ne.symm hne
        rw [upd_same, upd_other hqi]
        exact (hold q hq (hget q hlq hqi) hp).symm
      · rw [upd_other hpi]
        by_cases hqi : q = i
        · subst hqi; rw [upd_same]; exact hold p hp (hget p hlp hpi) hq
        · rw [upd_other hqi]; exact hI.dis p q hp hq hne (hget p hlp hpi) (hget q hlq hqi)
    · intro j oj hoj hj e he hb
      by_cases hji : j = i
      · subst hji
        rw [ho] at hoj
        cases hoj
        exact getD_set_true (hafter e he hb)
      · exact getD_set_true (hI.closed j oj hoj (hget j hj hji) e he hb)

/-- **THE LAW**: a region that draws its order. -/
theorem wp_region_lin (t : Nat → Nat) (al loud : Nat → Bool) (F : World → Prop) (R : Rel) {id : Nat} {a : Act} {w : World} (hm : P.follows .mixedOrders = true) (hok : linOK .any ops t = true)
    (hloud : loudOK ops t al loud = true) (hF : F w.drew) (hst : ∀ w w', F w → Below w.heap.size w w' → F w')
    (hstR : ∀ j v u w w', R j v u w → F w → Below w.heap.size w w' → R j v u w')
    (hal : ∀ j v u w, al j = true → R j v u w → ∃ b, v = .pointer (some ⟨b, 0, none⟩) ∧ b < w.heap.size)
    (hob : ∀ vs, Obls P .any ops R t al F loud (putAll ops.toList 0 vs a) vs 0 ops.toList)
    (hend : ∀ vs w', F w' → AllR R t vs w' 0 ops.toList → (∀ i j, al i = true → al j = true → i ≠ j → i < ops.size → j < ops.size → vs i ≠ vs j) → Q .normal (putAll ops.toList 0 vs a) w') : (Code.region id ops true).wp P Q a w := by
  refine wp_region_any hm (lin_core (t := t) (al := al) (loud := loud) (F := F) (R := R) hok hloud hst hstR hal hob hend ops.size _ a _ (fun j => match ops[j]? with | some o => ownVal a o.dst | none => undef) ?_ ?_)
  · unfold left; exact Nat.le_trans List.countP_le_length (by simp)
  · refine ⟨by simp, hF, (putAll_self ops.toList a ops.toList 0 _ fun k o hk => ?_).symm, fun j hj => ?_, fun p q hp hq hne hlp => ?_, fun j o ho hj => ?_⟩
    · rw [Nat.zero_add]
      have : ops[k]? = some o := by simpa using hk
      simp only [this]
    · exfalso
      rcases Nat.lt_or_ge j ops.size with h | h
      · simp [h] at hj
      · simp [Array.getElem?_eq_none, h] at hj
    · exfalso
      rcases Nat.lt_or_ge p ops.size with h | h
      · simp [h] at hlp
      · simp [Array.getElem?_eq_none, h] at hlp
    · exfalso
      rcases Nat.lt_or_ge j ops.size with h | h
      · simp [h] at hj
      · simp [Array.getElem?_eq_none, h] at hj

theorem below_on {a w w' : World} (h : Below a.heap.size a w) (k : Below w.heap.size w w') : Below a.heap.size a w' := h.trans (k.mono h.size)
/-- **THE LAW where what stood at the region's beginning stays.** -/
theorem wp_region_keep (t : Nat → Nat) (al loud : Nat → Bool) (R : Rel) {id : Nat} {a : Act} {w : World} (hm : P.follows .mixedOrders = true) (hok : linOK .any ops t = true) (hloud : loudOK ops t al loud = true)
    (hstR : ∀ j v u w1 w2, R j v u w1 → Below w.heap.size w w1 → Below w1.heap.size w1 w2 → R j v u w2)
    (hal : ∀ j v u w, al j = true → R j v u w → ∃ b, v = .pointer (some ⟨b, 0, none⟩) ∧ b < w.heap.size)
    (hob : ∀ vs, Obls P .any ops R t al (fun w' => Below w.heap.size w w') loud (putAll ops.toList 0 vs a) vs 0 ops.toList)
    (hend : ∀ vs w', Below w.heap.size w w' → AllR R t vs w' 0 ops.toList → (∀ i j, al i = true → al j = true → i ≠ j → i < ops.size → j < ops.size → vs i ≠ vs j) → Q .normal (putAll ops.toList 0 vs a) w') : (Code.region id ops true).wp P Q a w :=
  wp_region_lin t al loud (fun w' => Below w.heap.size w w') R hm hok hloud ((Below.refl _ _).drew) (fun _ _ h k => below_on h k) hstR hal hob hend
end

/-! ## A block that is known whole -/
/-- Block b is just these cells of type T, and may be written. -/
def Lies (w : World) (b : Nat) (T : TypeId) (cs : Array Value) : Prop := w.heap[b]? = some (.cells cs T (0, 0))
section
variable {w w' : World} {b : Nat} {T : TypeId} {cs : Array Value}
theorem Lies.lt (h : Lies w b T cs) : b < w.heap.size := by
  rcases Nat.lt_or_ge b w.heap.size with k | k
  · exact k
  · unfold Lies at h; rw [Array.getElem?_eq_none k] at h; cases h
theorem Lies.cell (h : Lies w b T cs) (i : Nat) : w.cell? ⟨b, i, none⟩ = cs[i]? := cell_of_row w b i cs T (0, 0) h
theorem Lies.free (h : Lies w b T cs) (i : Nat) : w.frozen? ⟨b, i, none⟩ = false := by unfold Lies at h; simp [World.frozen?, h]
theorem Lies.fresh (w : World) (T : TypeId) (cs : Array Value) : Lies (w.alloc (.cells cs T)) w.heap.size T cs := heap_alloc_new w _
theorem Lies.drew (h : Lies w b T cs) : Lies w.drew b T cs := h
theorem Lies.alloc (h : Lies w b T cs) (o : Obj) : Lies (w.alloc o) b T cs := (Below.heap_alloc w o b h.lt).trans h
theorem Lies.put (h : Lies w b T cs) (i : Nat) (u : Value) : Lies (w.setCell ⟨b, i, none⟩ u) b T (cs.setIfInBounds i u) := by
  unfold Lies at h ⊢; simp [World.setCell, Array.getElem?_modify, h]
theorem Lies.far (h : Lies w b T cs) {p : Addr} (hp : b ≠ p.block) (u : Value) : Lies (w.setCell p u) b T cs := (Below.heap_setCell w p u b hp).trans h
theorem Lies.below {B : Nat} (h : Lies w b T cs) (hb : Below B w w') (hg : b < B) : Lies w' b T cs := (hb.block b hg).trans h
theorem Lies.on (h : Lies w b T cs) (hb : Below w.heap.size w w') : Lies w' b T cs := h.below hb h.lt
end
/-- A pointer to a block of the region's own. -/
def NewR (B : Nat) (T : TypeId) (n : Nat) (v : Value) (w : World) : Prop := ∃ b cs, v = .pointer (some ⟨b, 0, none⟩) ∧ B ≤ b ∧ cs.size = n ∧ Lies w b T cs
/-- What lies behind a pointer. -/
def HasR (u : Value) (T : TypeId) (cs : Array Value) (w : World) : Prop := ∃ b, u = .pointer (some ⟨b, 0, none⟩) ∧ Lies w b T cs
theorem NewR.ptr {B : Nat} {T : TypeId} {n : Nat} {v : Value} {w : World} (h : NewR B T n v w) : ∃ b, v = .pointer (some ⟨b, 0, none⟩) ∧ b < w.heap.size := by
  obtain ⟨b, cs, e, hb, hn, hl⟩ := h; exact ⟨b, e, hl.lt⟩
theorem NewR.on {B : Nat} {T : TypeId} {n : Nat} {v : Value} {w w' : World} (h : NewR B T n v w) (k : Below w.heap.size w w') : NewR B T n v w' := by
  obtain ⟨b, cs, e, hb, hn, hl⟩ := h; exact ⟨b, cs, e, hb, hn, hl.on k⟩
theorem HasR.on {u : Value} {T : TypeId} {cs : Array Value} {w w' : World} (h : HasR u T cs w) (k : Below w.heap.size w w') : HasR u T cs w' := by
  obtain ⟨b, e, hl⟩ := h; exact ⟨b, e, hl.on k⟩
theorem size3 {cs : Array Value} (h : cs.size = 3) : ∃ a b c, cs = #[a, b, c] := by
  rcases cs with ⟨_ | ⟨a, _ | ⟨b, _ | ⟨c, _ | ⟨d, l⟩⟩⟩⟩⟩ <;> simp at h
  exact ⟨a, b, c, rfl⟩
theorem size2 {cs : Array Value} (h : cs.size = 2) : ∃ a b, cs = #[a, b] := by
  rcases cs with ⟨_ | ⟨a, _ | ⟨b, _ | ⟨c, l⟩⟩⟩⟩ <;> simp at h
  exact ⟨a, b, rfl⟩
theorem Lies.put2 {w : World} {b : Nat} {T : TypeId} {c0 c1 : Value} (h : Lies w b T #[c0, c1]) (x y : Value) :
    Lies ((w.setCell ⟨b, 0, none⟩ x).setCell ⟨b, 1, none⟩ y) b T #[x, y] := by
  have := (h.put 0 x).put 1 y
  simpa using this
theorem Lies.cells2 {w : World} {b : Nat} {T : TypeId} {c0 c1 : Value} (h : Lies w b T #[c0, c1]) : w.cell? ⟨b, 0, none⟩ = some c0 ∧ w.cell? ⟨b, 1, none⟩ = some c1 ∧
    w.frozen? ⟨b, 0, none⟩ = false ∧ w.frozen? ⟨b, 1, none⟩ = false := ⟨by rw [h.cell]; rfl, by rw [h.cell]; rfl, h.free 0, h.free 1⟩
theorem Lies.put3 {w : World} {b : Nat} {T : TypeId} {c0 c1 c2 : Value} (h : Lies w b T #[c0, c1, c2]) (x y z : Value) :
    Lies (((w.setCell ⟨b, 0, none⟩ x).setCell ⟨b, 1, none⟩ y).setCell ⟨b, 2, none⟩ z) b T #[x, y, z] := by
  have := ((h.put 0 x).put 1 y).put 2 z
  simpa using this
theorem Lies.cells3 {w : World} {b : Nat} {T : TypeId} {c0 c1 c2 : Value} (h : Lies w b T #[c0, c1, c2]) : w.cell? ⟨b, 0, none⟩ = some c0 ∧ w.cell? ⟨b, 1, none⟩ = some c1 ∧ w.cell? ⟨b, 2, none⟩ = some c2 ∧
    w.frozen? ⟨b, 0, none⟩ = false ∧ w.frozen? ⟨b, 1, none⟩ = false ∧ w.frozen? ⟨b, 2, none⟩ = false := ⟨by rw [h.cell]; rfl, by rw [h.cell]; rfl, by rw [h.cell]; rfl, h.free 0, h.free 1, h.free 2⟩
theorem blk_ne {u u' : Value} {b b' : Nat} (h : u = .pointer (some ⟨b, 0, none⟩)) (h' : u' = .pointer (some ⟨b', 0, none⟩)) (hn : u ≠ u') : b ≠ b' := by rintro rfl; exact hn (h.trans h'.symm)
theorem NewR.far3 {B : Nat} {T : TypeId} {n : Nat} {v v' : Value} {w : World} {g : Nat} (h : NewR B T n v w) (hv' : v' = .pointer (some ⟨g, 0, none⟩)) (hn : v ≠ v') (x y z : Value) :
    NewR B T n v (((w.setCell ⟨g, 0, none⟩ x).setCell ⟨g, 1, none⟩ y).setCell ⟨g, 2, none⟩ z) := by
  obtain ⟨b, cs, e, hb, hs, hl⟩ := h
  have hne := blk_ne e hv' hn
  exact ⟨b, cs, e, hb, hs, ((hl.far (p := ⟨g, 0, none⟩) hne x).far (p := ⟨g, 1, none⟩) hne y).far (p := ⟨g, 2, none⟩) hne z⟩
theorem NewR.far2 {B : Nat} {T : TypeId} {n : Nat} {v v' : Value} {w : World} {g : Nat} (h : NewR B T n v w) (hv' : v' = .pointer (some ⟨g, 0, none⟩)) (hn : v ≠ v') (x y : Value) :
    NewR B T n v ((w.setCell ⟨g, 0, none⟩ x).setCell ⟨g, 1, none⟩ y) := by
  obtain ⟨b, cs, e, hb, hs, hl⟩ := h
  have hne := blk_ne e hv' hn
  exact ⟨b, cs, e, hb, hs, (hl.far (p := ⟨g, 0, none⟩) hne x).far (p := ⟨g, 1, none⟩) hne y⟩
theorem HasR.far3 {T : TypeId} {cs : Array Value} {v v' : Value} {w : World} {g : Nat} (h : HasR v T cs w) (hv' : v' = .pointer (some ⟨g, 0, none⟩)) (hn : v ≠ v') (x y z : Value) :
    HasR v T cs (((w.setCell ⟨g, 0, none⟩ x).setCell ⟨g, 1, none⟩ y).setCell ⟨g, 2, none⟩ z) := by
  obtain ⟨b, e, hl⟩ := h
  have hne := blk_ne e hv' hn
  exact ⟨b, e, ((hl.far (p := ⟨g, 0, none⟩) hne x).far (p := ⟨g, 1, none⟩) hne y).far (p := ⟨g, 2, none⟩) hne z⟩
theorem HasR.far2 {T : TypeId} {cs : Array Value} {v v' : Value} {w : World} {g : Nat} (h : HasR v T cs w) (hv' : v' = .pointer (some ⟨g, 0, none⟩)) (hn : v ≠ v') (x y : Value) :
    HasR v T cs ((w.setCell ⟨g, 0, none⟩ x).setCell ⟨g, 1, none⟩ y) := by
  obtain ⟨b, e, hl⟩ := h
  have hne := blk_ne e hv' hn
  exact ⟨b, e, (hl.far (p := ⟨g, 0, none⟩) hne x).far (p := ⟨g, 1, none⟩) hne y⟩
end Go.Proofs.Ytfmekmbdienbjaa
