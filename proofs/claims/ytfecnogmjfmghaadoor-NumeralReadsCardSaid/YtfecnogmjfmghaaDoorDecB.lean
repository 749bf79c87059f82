/- The contracts of dec.fit, dec.Neg, dec.divisible, dec.less: what each returns; the world below the call's own blocks stays as it was. -/
import Derived.Test.YtfecnogmjfmghaaDoorDecA
import Derived.Deep.RegionWith
namespace Go.Proofs.YtfecnogmjfmghaaDoor
open Go.RowKit

theorem neg_bad (n : Bool) (m : Nat) (h : goodB n m = false) (w : World) :
    Calls Tryd.prog 28 #[MV n m] w fun e w' => e = .returned (.agg #[.bool false, .int .u64 0, .int .u64 0]) ∧ Below w.heap.size w w' := by
  have c1 := fun w => good_m n m w
  rw [h] at c1
  have C1 := Lib.hid c1
  clear c1 h
  go_enter Tryd.func28, Tryd.ntmps28
  go_wp2_with (first | (go_at_call 15; refine (C1.out _).mono ?_; rintro ew1 w1 ⟨rfl, hbw1⟩; obtain ⟨hcw1, hfw1⟩ := bcell hbw1; (try simp only [World.size_drew, World.cell?_drew, World.frozen?_drew] at hcw1 hfw1); have hzw1 := hbw1.size; (try simp at hzw1); have : w.heap.size < w1.heap.size := (by omega); have : w.heap.size + 1 < w1.heap.size := (by omega)))
  refine bodyPost_ret (v := .agg #[.bool false, .int .u64 0, .int .u64 0]) (by simp [results, Tryd.results28, go_sem, *]) rfl ⟨rfl, ?_⟩
  repeat (first | (with_reducible exact Below.refl _ _) | (with_reducible refine Below.drew ?_) | (refine Below.setCell ?_ (by first | exact Nat.le_refl _ | (simp; done) | (simp; omega) | omega) _) | (refine Below.alloc ?_ (by first | exact Nat.le_refl _ | (simp; done) | (simp; omega) | omega) _) | (refine Below.trans ?_ (Below.mono (by assumption) (by first | exact Nat.le_refl _ | (simp; done) | (simp; omega) | omega))))

set_option maxHeartbeats 1000000 in
theorem neg_ok (n : Bool) (m : Nat) (h : goodB n m = true) (w : World) :
    Calls Tryd.prog 28 #[MV n m] w fun e w' => e = .returned (MV (signB (!n) m) m) ∧ Below w.heap.size w w' := by
  have c1 := fun w => good_m n m w
  rw [h] at c1
  have C1 := Lib.hid c1
  clear c1 h
  go_enter Tryd.func28, Tryd.ntmps28
  go_wp2_with (first | (go_at_call 15; refine (C1.out _).mono ?_; rintro ew1 w1 ⟨rfl, hbw1⟩; obtain ⟨hcw1, hfw1⟩ := bcell hbw1; (try simp only [World.size_drew, World.cell?_drew, World.frozen?_drew] at hcw1 hfw1); have hzw1 := hbw1.size; (try simp at hzw1); have : w.heap.size < w1.heap.size := (by omega); have : w.heap.size + 1 < w1.heap.size := (by omega)))
  go_region_with (first
    | (go_at_call 48; refine (size_m _ _ _).mono ?_; rintro ew2 w2 ⟨rfl, hbw2⟩; obtain ⟨hcw2, hfw2⟩ := bcell hbw2; (try simp only [World.size_drew, World.cell?_drew, World.frozen?_drew] at hcw2 hfw2); have hzw2 := hbw2.size; (try simp at hzw2); have : w.heap.size < w2.heap.size := (by omega); have : w.heap.size + 1 < w2.heap.size := (by omega))
    | (go_at_call 47; refine (signed_m _ _ _).mono ?_; rintro ew3 w3 ⟨rfl, hbw3⟩; obtain ⟨hcw3, hfw3⟩ := bcell hbw3; (try simp only [World.size_drew, World.cell?_drew, World.frozen?_drew] at hcw3 hfw3); have hzw3 := hbw3.size; (try simp at hzw3); have : w.heap.size < w3.heap.size := (by omega); have : w.heap.size + 1 < w3.heap.size := (by omega)))
  all_goals
    go_wp2
    refine bodyPost_ret (v := MV (signB (!n) m) m) (by simp [results, Tryd.results28, go_sem, *]) rfl ⟨rfl, ?_⟩
    repeat (first | (with_reducible exact Below.refl _ _) | (with_reducible refine Below.drew ?_) | (refine Below.setCell ?_ (by first | exact Nat.le_refl _ | (simp; done) | (simp; omega) | omega) _) | (refine Below.alloc ?_ (by first | exact Nat.le_refl _ | (simp; done) | (simp; omega) | omega) _) | (refine Below.trans ?_ (Below.mono (by assumption) (by first | exact Nat.le_refl _ | (simp; done) | (simp; omega) | omega))))

theorem neg_z (z : Int) (h : z.natAbs < topN) (w : World) :
    Calls Tryd.prog 28 #[ZV z] w fun e w' => e = .returned (ZV (-z)) ∧ Below w.heap.size w w' := by
  refine (neg_ok (negZ z) z.natAbs (by rw [goodB_z]; simpa using h) w).mono ?_
  rintro e w' ⟨rfl, hb⟩
  exact ⟨ret_v (sign_z' (by omega) (by intro h0; unfold negZ; rw [← decide_not]; rw [decide_eq_decide]; omega)), hb⟩

end Go.Proofs.YtfecnogmjfmghaaDoor
