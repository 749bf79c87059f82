/- The contract of dec.Pow, all ways together. -/
import Derived.Test.YtanfgolelhmdhaaDecV
namespace Go.Proofs.Ytanfgolelhmdhaa
set_option linter.unusedSimpArgs false
set_option linter.unusedVariables false
set_option linter.unnecessarySimpa false
open Go.RowKit

set_option maxHeartbeats 4000000 in
theorem pow_bad (n n' : Bool) (m m' : Nat) (h : (goodB n m && goodB n' m') = false) (w : World) :
    Calls Try.prog 30 #[MV n m, MV n' m'] w fun e w' => e = .returned (RV (0, 1)) ∧ Below w.heap.size w w' := by
  by_cases h1 : goodB n m = true
  · have h2 : goodB n' m' = false := by rw [h1] at h; simpa using h
    have c1 := fun w => good_m n m w
    have c2 := fun w => good_m n' m' w
    rw [h1] at c1
    rw [h2] at c2
    have C1 := Lib.hid c1
    have C2 := Lib.hid c2
    clear c1 c2 h1 h2 h
    go_enter Try.func30, Try.ntmps30
    go_upto_region 1 with fail
    go_region_with (first
        | (go_at_call 15; with_reducible refine (C1.out _).mono ?_; rintro ew1 w1 ⟨rfl, hbw1⟩; obtain ⟨hcw1, hfw1⟩ := bcell hbw1; (try simp only [World.size_drew, World.cell?_drew, World.frozen?_drew] at hcw1 hfw1); have hzw1 := hbw1.size; (try simp at hzw1); obtain ⟨_, _, _⟩ := zs3 hzw1)
        | (go_at_call 15; with_reducible refine (C2.out _).mono ?_; rintro ew2 w2 ⟨rfl, hbw2⟩; obtain ⟨hcw2, hfw2⟩ := bcell hbw2; (try simp only [World.size_drew, World.cell?_drew, World.frozen?_drew] at hcw2 hfw2); have hzw2 := hbw2.size; (try simp at hzw2); have : w.heap.size < w2.heap.size := (by omega); have : w.heap.size + 1 < w2.heap.size := (by omega); have : w.heap.size + 1 + 1 < w2.heap.size := (by omega)))
    all_goals
      go_wp2
      refine bodyPost_ret (v := .tuple #[.agg #[.bool false, .int .u64 0, .int .u64 0], .iface 51 (.int .i64 1)]) (by simp [results, Try.results30, go_sem, *]) rfl ⟨rfl, ?_⟩
      repeat (first | (with_reducible exact Below.refl _ _) | (with_reducible refine Below.drew ?_) | (refine Below.setCell ?_ (by first | exact Nat.le_refl _ | (simp; done) | (simp; omega) | omega) _) | (refine Below.alloc ?_ (by first | exact Nat.le_refl _ | (simp; done) | (simp; omega) | omega) _) | (refine Below.trans ?_ (Below.mono (by assumption) (by first | exact Nat.le_refl _ | (simp; done) | (simp; omega) | omega))))
  · have h1' : goodB n m = false := by simpa using h1
    have c1 := fun w => good_m n m w
    rw [h1'] at c1
    have C1 := Lib.hid c1
    clear c1 h1 h1' h
    go_enter Try.func30, Try.ntmps30
    go_upto_region 1 with fail
    go_region_with (first
        | (go_at_call 15; with_reducible refine (C1.out _).mono ?_; rintro ew1 w1 ⟨rfl, hbw1⟩; obtain ⟨hcw1, hfw1⟩ := bcell hbw1; (try simp only [World.size_drew, World.cell?_drew, World.frozen?_drew] at hcw1 hfw1); have hzw1 := hbw1.size; (try simp at hzw1); obtain ⟨_, _, _⟩ := zs3 hzw1))
    all_goals
      go_wp2
      refine bodyPost_ret (v := .tuple #[.agg #[.bool false, .int .u64 0, .int .u64 0], .iface 51 (.int .i64 1)]) (by simp [results, Try.results30, go_sem, *]) rfl ⟨rfl, ?_⟩
      repeat (first | (with_reducible exact Below.refl _ _) | (with_reducible refine Below.drew ?_) | (refine Below.setCell ?_ (by first | exact Nat.le_refl _ | (simp; done) | (simp; omega) | omega) _) | (refine Below.alloc ?_ (by first | exact Nat.le_refl _ | (simp; done) | (simp; omega) | omega) _) | (refine Below.trans ?_ (Below.mono (by assumption) (by first | exact Nat.le_refl _ | (simp; done) | (simp; omega) | omega))))

/-- What Pow answers on right numbers. -/
def powR (x y : Int) : Int × Nat :=
  if y = truncZ y then
    if x = 0 ∧ negZ y = true then (0, 3)
    else if whB false (y.natAbs / 1000000) = true ∧ y.natAbs / 1000000 ≤ 1000 then
      if negZ y = true then powD x (y.natAbs / 1000000) else powN x (y.natAbs / 1000000)
    else (0, 2)
  else (0, 1)

theorem pow_z (x y : Int) (hx : x.natAbs < topN) (hy : y.natAbs < topN) (w : World) :
    Calls Try.prog 30 #[ZV x, ZV y] w fun e w' => e = .returned (RV (powR x y)) ∧ Below w.heap.size w w' := by
  unfold powR
  by_cases hw : y = truncZ y
  · rw [if_pos hw]
    by_cases h0 : x = 0 ∧ negZ y = true
    · rw [if_pos h0]; exact pow_0neg x y hx hy hw h0.1 h0.2 w
    · rw [if_neg h0]
      have h0' : x ≠ 0 ∨ negZ y = false := by
        by_cases hz : x = 0
        · right; cases hn : negZ y
          · rfl
          · exact absurd ⟨hz, hn⟩ h0
        · left; exact hz
      by_cases hb : whB false (y.natAbs / 1000000) = true
      · by_cases h1 : y.natAbs / 1000000 ≤ 1000
        · rw [if_pos ⟨hb, h1⟩]
          cases hn : negZ y
          · rw [if_neg (by simp)]
            by_cases hz : x = 0
            · exact pow_go0 x y hx hy hw hz hb h1 hn w
            · exact pow_go x y hx hy hw hz hb h1 hn w
          · rw [if_pos rfl]
            have hz : x ≠ 0 := fun e => h0 ⟨e, hn⟩
            exact pow_neg x y hx hy hw hz hb h1 hn w
        · rw [if_neg (fun h => h1 h.2)]; exact pow_big2 x y hx hy hw h0' hb (by omega) w
      · rw [if_neg (fun h => hb h.1)]; exact pow_big1 x y hx hy hw h0' (by simpa using hb) w
  · rw [if_neg hw]; exact pow_frac x y hx hy hw w
end Go.Proofs.Ytanfgolelhmdhaa
