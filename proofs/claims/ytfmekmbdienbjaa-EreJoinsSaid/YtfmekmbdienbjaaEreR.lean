/- 'awake' of the statements of layer 4: the document's examples hold. -/
import Derived.Test.YtfmekmbdienbjaaEreQ
namespace Go.Proofs.Ytfmekmbdienbjaa
set_option linter.unusedSimpArgs false
set_option linter.unusedVariables false
set_option linter.unnecessarySimpa false
open Go.RowKit

/-- How an expression without brackets of sets is read, reckoned. -/
def runF (l : List UInt8) : Nat → NT → Option ER
  | 0, _ => none
  | f + 1, .exp k o acc => match runF l f (.bra k o []) with
    | some (.bad a c) => some (.bad a c)
    | some (.ok t n) => if isL l n 124 = true then runF l f (.exp (n + 1) o (acc ++ [t])) else some (.ok (together 3 (acc ++ [t])) n)
    | none => none
  | f + 1, .bra k o acc => if endB l k = true then some (.ok (together 2 acc) k) else match runF l f (.atm k o) with
    | some (.bad a c) => some (.bad a c)
    | some (.ok t n) => match runF l f (.pie n o t 0) with
      | some (.bad a c) => some (.bad a c)
      | some (.ok t' n') => runF l f (.bra n' o (acc ++ [t']))
      | none => none
    | none => none
  | f + 1, .pie k o t s => match signL l k with
    | .none => some (.ok t k)
    | .bad => some (.bad k 5)
    | .some a b n => if s = 8 then some (.bad k 6) else runF l f (.pie n o (.node 4 nonP a b [t]) (s + 1))
  | f + 1, .atm k o => if isL l k 40 = true then (if o = 64 then some (.bad k 6) else match runF l f (.exp (k + 1) (o + 1) []) with
      | some (.bad a c) => some (.bad a c)
      | some (.ok t n) => if isL l n 41 = true then some (.ok t (n + 1)) else some (.bad l.length 7)
      | none => none)
    else if isL l k 91 = true then none else if k < l.length then some (plainA l k) else none
theorem runF_run {l : List UInt8} : ∀ (f : Nat) (S : NT) (R : ER), runF l f S = some R → RunE l S R := by
  intro f
  induction f with
  | zero => intro S R h; cases h
  | succ f ih =>
    intro S R h
    cases S with
    | exp k o acc =>
      unfold runF at h
      split at h
      · rename_i a c hb; injection h with h; subst h; exact .expBad k o acc a c (ih _ _ hb)
      · rename_i t n hb
        split at h
        · rename_i h1; exact .expOr k o acc t n R (ih _ _ hb) h1 (ih _ _ h)
        · rename_i h1; injection h with h; subst h; exact .expEnd k o acc t n (ih _ _ hb) (by simpa using h1)
      · cases h
    | bra k o acc =>
      unfold runF at h
      split at h
      · rename_i h1; injection h with h; subst h; exact .braEnd k o acc h1
      · rename_i h1
        have h1 : endB l k = false := by simpa using h1
        split at h
        · rename_i a c hb; injection h with h; subst h; exact .braBad k o acc a c h1 (ih _ _ hb)
        · rename_i t n hb
          split at h
          · rename_i a c hp; injection h with h; subst h; exact .braSgn k o acc t n a c h1 (ih _ _ hb) (ih _ _ hp)
          · rename_i t' n' hp; exact .braOn k o acc t t' n n' R h1 (ih _ _ hb) (ih _ _ hp) (ih _ _ h)
          · cases h
        · cases h
    | pie k o t s =>
      unfold runF at h
      split at h
      · rename_i h1; injection h with h; subst h; exact .pieEnd k o t s h1
      · rename_i h1; injection h with h; subst h; exact .pieBad k o t s h1
      · rename_i a b n h1
        split at h
        · rename_i h2; subst h2; injection h with h; subst h; exact .pieDeep k o t a b n h1
        · rename_i h2; exact .pieOn k o t s a b n R h1 h2 (ih _ _ h)
    | atm k o =>
      unfold runF at h
      split at h
      · rename_i h40
        split at h
        · rename_i h64; subst h64; injection h with h; subst h; exact .atmDeep k h40
        · rename_i h64
          split at h
          · rename_i a c hb; injection h with h; subst h; exact .atmBad k o a c h40 h64 (ih _ _ hb)
          · rename_i t n hb
            split at h
            · rename_i h41; injection h with h; subst h; exact .atmOk k o t n h40 h64 (ih _ _ hb) h41
            · rename_i h41; injection h with h; subst h; exact .atmOpen k o t n h40 h64 (ih _ _ hb) (by simpa using h41)
          · cases h
      · rename_i h40
        split at h
        · cases h
        · rename_i h91
          split at h
          · rename_i hk; injection h with h; subst h; exact .atmOne k o hk (by simpa using h40) (by simpa using h91)
          · cases h
theorem PValS.node {w : World} {S : Nat → Prop} {c : Array Value} {k : Nat} {p : Nat → Bool} {a b : Int} {l : List PT} (h : PValS w S c (.node k p a b l)) :
    ∃ (ad : Option Addr) (cap blk : Nat) (cs : Nat → Array Value), c = partA k p a b (.slice ad l.length cap) ∧ (l ≠ [] → ad = some ⟨blk, 0, none⟩ ∧ S blk ∧ blk < w.heap.size) ∧ (∀ j, j < l.length → ∀ i v, (cs j)[i]? = some v → w.cell? ⟨blk, 8 * j + i, none⟩ = some v) ∧ ∀ j (h : j < l.length), PValS w S (cs j) l[j] := by
  cases h with
  | mk _ _ _ _ _ ad cap blk cs h0 h1 hc hs => exact ⟨ad, cap, blk, cs, rfl, h1, hc, hs⟩

def ea1 : List UInt8 := [97, 124, 98, 42]
def ea2 : List UInt8 := [97, 123, 50, 44, 125]
def ea3 : List UInt8 := [97, 123, 120]
def et1 : PT := .node 3 nonP 0 0 [setT (rngP 97 97), .node 4 nonP 0 (-1) [setT (rngP 98 98)]]
def et2 : PT := .node 4 nonP 2 (-1) [setT (rngP 97 97)]
def et3 : PT := .node 2 nonP 0 0 [setT (rngP 97 97), setT (rngP 123 123), setT (rngP 120 120)]
theorem ea1_run : RunE ea1 (.exp 0 0 []) (.ok et1 4) := runF_run 20 _ _ (by kernel_rfl)
theorem ea2_run : RunE ea2 (.exp 0 0 []) (.ok et2 5) := runF_run 20 _ _ (by kernel_rfl)
theorem ea3_run : RunE ea3 (.exp 0 0 []) (.ok et3 3) := runF_run 20 _ _ (by kernel_rfl)
abbrev eb1 : Array Value := #[.int .u8 97, .int .u8 124, .int .u8 98, .int .u8 42]
abbrev eb2 : Array Value := #[.int .u8 97, .int .u8 123, .int .u8 50, .int .u8 44, .int .u8 125]
abbrev eb3 : Array Value := #[.int .u8 97, .int .u8 123, .int .u8 120]
theorem eaP1 (W : World) (hM : HM W) : Calls Try.prog 6 #[.slice (some ⟨W.heap.size, 0, none⟩) 4 4] (W.alloc (.cells eb1 5 (4, 5))) fun e w' =>
    ∃ cap blk, e = .returned (.tuple #[.agg (partA 3 nonP 0 0 (.slice (some ⟨blk, 0, none⟩) 2 cap)), .nilIface]) ∧ blk < w'.heap.size ∧ w'.cell? ⟨blk, 8, none⟩ = some (.int .i64 4) ∧ 2 ≤ cap ∧ Below (W.heap.size + 1) (W.alloc (.cells eb1 5 (4, 5))) w' := by
  refine (par_u (bs_new W ea1 5 (4, 5) (by decide)) (hM.on ((Below.refl _ _).alloc (Nat.le_refl _) _)) (by decide) _ ea1_run).mono ?_
  rintro e w' ⟨cs, ev, rfl, ⟨rfl, hp⟩, hb⟩
  cases hp with
  | mk _ _ _ _ _ ad cap blk css h0 h1 hc hs =>
    obtain ⟨rfl, h2, h3⟩ := h1 (by simp)
    have h4 := hs 1 (by decide)
    obtain ⟨ad', cap', blk', css', h5, _⟩ := h4.node
    refine ⟨cap, blk, rfl, h3, hc 1 (by decide) 0 _ (by rw [h5]; rfl), h0.1, ?_⟩
    exact Below.mono hb (by simp)
theorem eaP2 (W : World) (hM : HM W) : Calls Try.prog 6 #[.slice (some ⟨W.heap.size, 0, none⟩) 5 5] (W.alloc (.cells eb2 5 (5, 6))) fun e w' =>
    ∃ lv, e = .returned (.tuple #[.agg (partA 4 nonP 2 (-1) lv), .nilIface]) ∧ (∃ ad n cap, lv = .slice ad n cap) ∧ Below (W.heap.size + 1) (W.alloc (.cells eb2 5 (5, 6))) w' := by
  refine (par_u (bs_new W ea2 5 (5, 6) (by decide)) (hM.on ((Below.refl _ _).alloc (Nat.le_refl _) _)) (by decide) _ ea2_run).mono ?_
  rintro e w' ⟨cs, ev, rfl, ⟨rfl, hp⟩, hb⟩
  cases hp with
  | mk _ _ _ _ _ ad cap blk css h0 h1 hc hs => exact ⟨_, rfl, ⟨_, _, _, rfl⟩, Below.mono hb (by simp)⟩
theorem eaP3 (W : World) (hM : HM W) : Calls Try.prog 6 #[.slice (some ⟨W.heap.size, 0, none⟩) 3 3] (W.alloc (.cells eb3 5 (3, 4))) fun e w' =>
    ∃ ad cap, e = .returned (.tuple #[.agg (partA 2 nonP 0 0 (.slice ad 3 cap)), .nilIface]) ∧ Below (W.heap.size + 1) (W.alloc (.cells eb3 5 (3, 4))) w' := by
  refine (par_u (bs_new W ea3 5 (3, 4) (by decide)) (hM.on ((Below.refl _ _).alloc (Nat.le_refl _) _)) (by decide) _ ea3_run).mono ?_
  rintro e w' ⟨cs, ev, rfl, ⟨rfl, hp⟩, hb⟩
  cases hp with
  | mk _ _ _ _ _ ad cap blk css h0 h1 hc hs => exact ⟨_, _, rfl, Below.mono hb (by simp)⟩
set_option maxRecDepth 100000 in
set_option maxHeartbeats 8000000 in
theorem awake4 (w : World) (hM : HM w) : Calls Try.prog 5 #[] w fun e w' => e = .returned (.bool true) ∧ Below w.heap.size w w' := by
  have kc := fun (w : World) (C : Array Value) (n c : Nat) => Lib.run_convert_bytes_const (P := Try.prog) w 22 5 C n c Try.underlying22 Try.underlying5
  have A1 := Lib.hid eaP1
  have A2 := Lib.hid eaP2
  have A3 := Lib.hid eaP3
  go_enter Try.func5, Try.ntmps5
  go_wp2_with fail
  refine (A1.out w hM).mono ?_; rintro e w2 ⟨cap, blk, rfl, hblk, hkind, hcap, hb2⟩; (try dsimp only)
  have hBw2 : Below w.heap.size w w2 := ((Below.refl w.heap.size w).alloc (Nat.le_refl _) _).trans (hb2.mono (by omega))
  clear hb2
  go_upto_region 2 with fail
  have r1 : Row (w2.alloc (.cells (partA 3 nonP 0 0 (.slice (some ⟨blk, 0, none⟩) 2 cap)) 29)) w2.heap.size 29 (partA 3 nonP 0 0 (.slice (some ⟨blk, 0, none⟩) 2 cap)) := Row.new w2 _ _
  have B23 : Below w2.heap.size w2 (w2.alloc (.cells (partA 3 nonP 0 0 (.slice (some ⟨blk, 0, none⟩) 2 cap)) 29)) := (Below.refl _ _).alloc (Nat.le_refl _) _
  have hBw3 : Below w.heap.size w (w2.alloc (.cells (partA 3 nonP 0 0 (.slice (some ⟨blk, 0, none⟩) 2 cap)) 29)) := hBw2.trans (B23.mono hBw2.size)
  have hk3 := (B23.cell (p := ⟨blk, 8, none⟩) hblk).trans hkind
  have hblk3 := Nat.lt_of_lt_of_le hblk B23.size
  obtain ⟨g1, hg1⟩ : ∃ x, x = w2.heap.size := ⟨_, rfl⟩
  rw [← hg1]
  rw [← hg1] at r1
  clear hkind hblk B23 hg1
  generalize (w2.alloc (.cells (partA 3 nonP 0 0 (.slice (some ⟨blk, 0, none⟩) 2 cap)) 29)) = w3 at *
  have R1 := Lib.hid r1
  have HK3 := Lib.hid hk3
  clear r1 hk3
  go_wp2_with fail
  refine (A2.out w3 (hM.on hBw3)).mono ?_; rintro e w4 ⟨lv, rfl, ⟨ad2, n2, cap2, rfl⟩, hb4⟩; (try dsimp only)
  have B34 : Below w3.heap.size w3 w4 := ((Below.refl w3.heap.size w3).alloc (Nat.le_refl _) _).trans (hb4.mono (by omega))
  clear hb4
  go_upto_region 3 with fail
  have B45 : Below w3.heap.size w3 (w4.alloc (.cells (partA 4 nonP 2 (-1) (.slice ad2 n2 cap2)) 29)) := B34.alloc B34.size _
  have r3 : Row (w4.alloc (.cells (partA 4 nonP 2 (-1) (.slice ad2 n2 cap2)) 29)) w4.heap.size 29 (partA 4 nonP 2 (-1) (.slice ad2 n2 cap2)) := Row.new w4 _ _
  obtain ⟨g3, hg3⟩ : ∃ x, x = w4.heap.size := ⟨_, rfl⟩
  rw [← hg3]
  rw [← hg3] at r3
  clear hg3 B34
  generalize (w4.alloc (.cells (partA 4 nonP 2 (-1) (.slice ad2 n2 cap2)) 29)) = w5 at *
  have R1 := Lib.hid (R1.out.on B45)
  have R3 := Lib.hid r3
  have HK3 := Lib.hid ((B45.cell (p := ⟨blk, 8, none⟩) hblk3).trans HK3.out)
  have hblk5 := Nat.lt_of_lt_of_le hblk3 B45.size
  have hBw5 := hBw3.trans (B45.mono hBw3.size)
  clear r3 B45 hblk3 hBw3
  go_wp2_with fail
  refine (A3.out w5 (hM.on hBw5)).mono ?_; rintro e w6 ⟨ad3, cap3, rfl, hb6⟩; (try dsimp only)
  have B56 : Below w5.heap.size w5 w6 := ((Below.refl w5.heap.size w5).alloc (Nat.le_refl _) _).trans (hb6.mono (by omega))
  clear hb6
  go_upto_region 4 with fail
  have B57 : Below w5.heap.size w5 (w6.alloc (.cells (partA 2 nonP 0 0 (.slice ad3 3 cap3)) 29)) := B56.alloc B56.size _
  have r5 : Row (w6.alloc (.cells (partA 2 nonP 0 0 (.slice ad3 3 cap3)) 29)) w6.heap.size 29 (partA 2 nonP 0 0 (.slice ad3 3 cap3)) := Row.new w6 _ _
  obtain ⟨g5, hg5⟩ : ∃ x, x = w6.heap.size := ⟨_, rfl⟩
  rw [← hg5]
  rw [← hg5] at r5
  clear hg5 B56
  generalize (w6.alloc (.cells (partA 2 nonP 0 0 (.slice ad3 3 cap3)) 29)) = w7 at *
  have r1 := R1.out.on B57
  have r3 := R3.out.on B57
  have hkk := (B57.cell (p := ⟨blk, 8, none⟩) hblk5).trans HK3.out
  have hblk7 := Nat.lt_of_lt_of_le hblk5 B57.size
  have hBw7 := Lib.hid (hBw5.trans (B57.mono hBw5.size))
  clear R1 R3 HK3 B57 hBw5 hblk5
  have a0 : w7.cell? ⟨g1, 0, none⟩ = some (.int .i64 3) := r1.cell 0
  have a7 : w7.cell? ⟨g1, 7, none⟩ = some (.slice (some ⟨blk, 0, none⟩) 2 cap) := r1.cell 7
  have b5 : w7.cell? ⟨g3, 5, none⟩ = some (.int .i64 2) := r3.cell 5
  have b6 : w7.cell? ⟨g3, 6, none⟩ = some (.int .i64 (-1)) := r3.cell 6
  have d7 : w7.cell? ⟨g5, 7, none⟩ = some (.slice ad3 3 cap3) := r5.cell 7
  have l1 := r1.lt
  have l3 := r3.lt
  have l5 := r5.lt
  clear r1 r3 r5 A1 A2 A3 hBw2 hM
  go_wp2
  go_ret
  exact ⟨rfl, hBw7.out⟩
end Go.Proofs.Ytfmekmbdienbjaa
