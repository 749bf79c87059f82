/- The contract of spell. -/
import Derived.Test.YtfecnogmjfmghaaDoorNumJ
import Derived.Test.YtfecnogmjfmghaaDoorDecD
namespace Go.Proofs.YtfecnogmjfmghaaDoor
set_option linter.unusedSimpArgs false
set_option linter.unusedVariables false
set_option linter.unnecessarySimpa false
open Go.RowKit

def nul (k : Nat) : List UInt8 := List.replicate k 0
theorem dgsAB (a b m p : Nat) (hp : 10 ^ b = p) : dgs a (m / p) ++ dgs b (m % p) = dgs (a + b) m := by
  subst hp
  rw [dgs_add]
  congr 1
  have := dgs_mod b (m % 10 ^ b) (m / 10 ^ b)
  rw [Nat.mod_add_div] at this
  exact this.symm
/-- All 36 digits; the 18 last ones. -/
def d36 (m : Nat) : List UInt8 := dgs 36 m
def d18 (m : Nat) : List UInt8 := dgs 18 m
theorem d36_len (m : Nat) : (d36 m).length = 36 := dgs_len 36 m
theorem d18_len (m : Nat) : (d18 m).length = 18 := dgs_len 18 m
theorem d36_eq (m : Nat) : d18 (m / 1000000000000000000) ++ d18 (m % 1000000000000000000) = d36 m := dgsAB 18 18 m 1000000000000000000 (by decide)
theorem split_18 {g cap n : Nat} {pre mid post : List UInt8} {T : TypeId} {w : World} (hm : mid.length = 18) (r : Row w g T (bvs (pre ++ (mid ++ post))).toArray) (hcap : 18 ≤ cap) (hn : n < 18446744073709551616) :
    Calls Tryd.prog 52 #[.slice (some ⟨g, pre.length, none⟩) 18 cap, .int .u64 (n : Int)] w fun e w' => e = .returned (.tuple #[]) ∧ Row w' g T (bvs (pre ++ (d18 n ++ post))).toArray ∧ Below g w w' :=
  split_u hm r (Nat.le_refl _) hcap hn

set_option maxRecDepth 100000 in
set_option maxHeartbeats 4000000 in
theorem spell_core (b : Bool) (m u v : Nat) (U D : List UInt8) (hl : D.length = 36)
    (CD : Hid (∀ w, Calls Tryd.prog 51 #[.int .u64 (hiN m : Int), .int .u64 (loN m : Int), .int .u64 1000000000000000000] w fun e w' => e = .returned (.tuple #[.int .u64 (u : Int), .int .u64 (v : Int)]) ∧ Below w.heap.size w w'))
    (S1 : Hid (∀ W g, Row W g 69 (bvs (nul 36)).toArray → Calls Tryd.prog 52 #[.slice (some ⟨g, 0, none⟩) 18 36, .int .u64 (u : Int)] W fun e w' => e = .returned (.tuple #[]) ∧ Row w' g 69 (bvs (U ++ nul 18)).toArray ∧ Below g W w'))
    (S2 : Hid (∀ W g, Row W g 69 (bvs (U ++ nul 18)).toArray → Calls Tryd.prog 52 #[.slice (some ⟨g, 18, none⟩) 18 18, .int .u64 (v : Int)] W fun e w' => e = .returned (.tuple #[]) ∧ Row w' g 69 (bvs D).toArray ∧ Below g W w')) (w : World) :
    Calls Tryd.prog 36 #[MV b m] w fun e w' => e = .returned (.agg (bvs D).toArray) ∧ Below w.heap.size w w' := by
  have HL := Lib.hid hl; clear hl
  have hs3 := fun W => run_at_to (w.heap.size + 1 + 1) 18 (by omega) 18 (by omega) W
  have hs4 := fun W => run_at_from (w.heap.size + 1 + 1) 18 (by omega) 18 (by omega) W
  go_enter Tryd.func36, Tryd.ntmps36
  go_upto_region 2 with fail
  have r2 : Row (((w.alloc (.cells #[.bool b, .int .u64 (hiN m : Int), .int .u64 (loN m : Int)] 26)).alloc (.cells (bvs (nul 36)).toArray 69)).alloc (.cells (bvs (nul 36)).toArray 69)) (w.heap.size + 1 + 1) 69 (bvs (nul 36)).toArray := by
    have := Row.new ((w.alloc (.cells #[.bool b, .int .u64 (hiN m : Int), .int .u64 (loN m : Int)] 26)).alloc (.cells (bvs (nul 36)).toArray 69)) 69 (bvs (nul 36)).toArray
    simpa using this
  have r1 : Row (((w.alloc (.cells #[.bool b, .int .u64 (hiN m : Int), .int .u64 (loN m : Int)] 26)).alloc (.cells (bvs (nul 36)).toArray 69)).alloc (.cells (bvs (nul 36)).toArray 69)) (w.heap.size + 1) 69 (bvs (nul 36)).toArray := by
    have := (Row.new (w.alloc (.cells #[.bool b, .int .u64 (hiN m : Int), .int .u64 (loN m : Int)] 26)) 69 (bvs (nul 36)).toArray).alloc (.cells (bvs (nul 36)).toArray 69)
    simpa using this
  have r0 : Row (((w.alloc (.cells #[.bool b, .int .u64 (hiN m : Int), .int .u64 (loN m : Int)] 26)).alloc (.cells (bvs (nul 36)).toArray 69)).alloc (.cells (bvs (nul 36)).toArray 69)) w.heap.size 26 #[.bool b, .int .u64 (hiN m : Int), .int .u64 (loN m : Int)] :=
    ((Row.new w _ _).alloc _).alloc _
  have hB : Below w.heap.size w (((w.alloc (.cells #[.bool b, .int .u64 (hiN m : Int), .int .u64 (loN m : Int)] 26)).alloc (.cells (bvs (nul 36)).toArray 69)).alloc (.cells (bvs (nul 36)).toArray 69)) := by repeat (first | (with_reducible exact Below.refl _ _) | (with_reducible refine Below.drew ?_) | (refine Below.setCell ?_ (by first | exact Nat.le_refl _ | (simp; done) | (simp; omega) | omega) _) | (refine Below.alloc ?_ (by first | exact Nat.le_refl _ | (simp; done) | (simp; omega) | omega) _) | (refine Below.trans ?_ (Below.mono (by assumption) (by first | exact Nat.le_refl _ | (simp; done) | (simp; omega) | omega))))
  change Code.wp _ _ _ _ (((w.alloc (.cells #[.bool b, .int .u64 (hiN m : Int), .int .u64 (loN m : Int)] 26)).alloc (.cells (bvs (nul 36)).toArray 69)).alloc (.cells (bvs (nul 36)).toArray 69))
  generalize (((w.alloc (.cells #[.bool b, .int .u64 (hiN m : Int), .int .u64 (loN m : Int)] 26)).alloc (.cells (bvs (nul 36)).toArray 69)).alloc (.cells (bvs (nul 36)).toArray 69)) = w0 at *
  have k0 := r0.cell 0
  have k1 := r0.cell 1
  have k2 := r0.cell 2
  simp only [List.getElem?_toArray, List.getElem?_cons_zero, List.getElem?_cons_succ] at k0 k1 k2
  go_wp2_with fail
  refine (CD.out _).mono ?_
  rintro e w1 ⟨rfl, hb1⟩
  have q2 := r2.on hb1
  have q1 := r1.on hb1
  have hB1 : Below w.heap.size w w1 := hB.trans (hb1.mono hB.size)
  clear k0 k1 k2 r0 r1 r2 hb1 hB
  go_wp2_with fail
  refine (S1.out _ _ q2).mono ?_
  rintro e w2 ⟨rfl, q2', hb2⟩
  have p1 := q1.onb hb2 (by omega)
  have hB2 : Below w.heap.size w w2 := hB1.trans (hb2.mono (by omega))
  clear q1 q2 hb2 hB1
  go_wp2_with fail
  refine (S2.out _ _ q2').mono ?_
  rintro e w3 ⟨rfl, q3, hb3⟩
  have p3 := p1.onb hb3 (by omega)
  have hB3 : Below w.heap.size w w3 := hB2.trans (hb3.mono (by omega))
  clear p1 q2' hb3 hB2
  go_upto_region 5 with fail
  have hi : (Tryd.prog.info? 69).map (·.size) = some (bvs D).toArray.size := by
    rw [List.size_toArray, bvs_len, HL.out]; kernel_rfl
  have hall : (bvs D).toArray.all (·.oneCell') = true := by
    rw [Array.all_eq_true']; intro x hx; exact bvs_one D x (by simpa using hx)
  have hsz : (bvs (nul 36)).toArray.size = (bvs D).toArray.size := by
    rw [List.size_toArray, bvs_len, List.size_toArray, bvs_len, HL.out]; rfl
  refine wp_region_lit ?_
  refine wpList_load_row rfl 69 (.tmp 3) rfl (w.heap.size + 1 + 1) rfl 69 (bvs D).toArray (0, 0) _ q3 Tryd.underlying69 rfl hi ?_
  refine wpList_store_row rfl 69 (.tmp 2) (.tmp 20) rfl (w.heap.size + 1) (bvs D).toArray rfl rfl 69 (bvs (nul 36)).toArray p3 hi hsz hall ?_
  have pf : Row (w3.setRow (w.heap.size + 1) (bvs D).toArray) (w.heap.size + 1) 69 (bvs D).toArray := setRow_heap w3 _ _ _ _ _ p3
  have hBf : Below w.heap.size w (w3.setRow (w.heap.size + 1) (bvs D).toArray) :=
    hB3.trans ⟨rfl, rfl, rfl, Nat.le_of_eq (setRow_size _ _ _).symm, fun k hk => setRow_other w3 _ k _ (by omega)⟩
  generalize w3.setRow (w.heap.size + 1) (bvs D).toArray = wf at *
  clear hall hsz p3 q3 hB3 HL S1 S2 CD
  go_wp2
  exact bodyPost_ret (v := .agg (bvs D).toArray) (results_cell_row rfl _ wf (w.heap.size + 1) _ _ _ _ rfl pf Tryd.underlying69 rfl hi) rfl ⟨rfl, hBf⟩

theorem nul36 : nul 36 = [] ++ (nul 18 ++ nul 18) := by decide
theorem split_18a (W : World) (g u : Nat) (hr : Row W g 69 (bvs ([] ++ (nul 18 ++ nul 18))).toArray) (hu : u < 18446744073709551616) :
    Calls Tryd.prog 52 #[.slice (some ⟨g, 0, none⟩) 18 36, .int .u64 (u : Int)] W fun e w' => e = .returned (.tuple #[]) ∧ Row w' g 69 (bvs (d18 u ++ nul 18)).toArray ∧ Below g W w' := by
  have := split_18 (g := g) (cap := 36) (n := u) (w := W) (T := 69) (pre := []) (mid := nul 18) (post := nul 18) (List.length_replicate ..) hr (by omega) hu
  rw [List.nil_append] at this
  exact this
theorem spell_u (b : Bool) (m : Nat) (hm : m < topN) (w : World) :
    Calls Tryd.prog 36 #[MV b m] w fun e w' => e = .returned (.agg (bvs (d36 m)).toArray) ∧ Below w.heap.size w w' := by
  rw [topN_eq] at hm
  refine spell_core b m (m / 1000000000000000000) (m % 1000000000000000000) (d18 (m / 1000000000000000000)) (d36 m) (d36_len m) ?_ ?_ ?_ w
  · intro w
    have := div64_any (hiN m) (loN m) 1000000000000000000 (by unfold hiN; omega) (by omega) (loN_lt m) w
    rw [hilo] at this
    exact this
  · intro W g hr
    have hu : m / 1000000000000000000 < 18446744073709551616 := by omega
    generalize m / 1000000000000000000 = u at *
    rw [nul36] at hr
    exact split_18a W g u hr hu
  · intro W g hr
    have := split_18 (g := g) (w := W) (T := 69) (pre := d18 (m / 1000000000000000000)) (mid := nul 18) (post := []) (cap := 18) (n := m % 1000000000000000000) (List.length_replicate ..) (by rw [List.append_nil]; exact hr) (by omega) (by omega)
    rw [d18_len, List.append_nil, d36_eq] at this
    exact this
end Go.Proofs.YtfecnogmjfmghaaDoor
