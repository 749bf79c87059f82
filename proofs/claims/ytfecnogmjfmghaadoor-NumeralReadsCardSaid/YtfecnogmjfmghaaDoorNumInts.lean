/- The walk of NumeralInts. -/
import Derived.Test.YtfecnogmjfmghaaDoorNumR
import Derived.Test.YtfecnogmjfmghaaDoorDecQ
namespace Go.Proofs.YtfecnogmjfmghaaDoor
set_option linter.unusedSimpArgs false
set_option linter.unusedVariables false
set_option linter.unnecessarySimpa false
open Go.RowKit

/-- A digit's byte; a number's digits. -/
def dgB (u : Nat) : UInt8 := UInt8.ofNat (48 + u % 10)
def dec10 (u : Nat) : List UInt8 := if u ≤ 9 then [dgB u] else dec10 (u / 10) ++ [dgB u]
termination_by u
decreasing_by omega
theorem dec10_le {u : Nat} (h : u ≤ 9) : dec10 u = [dgB u] := by rw [dec10, if_pos h]
theorem dec10_gt {u : Nat} (h : 9 < u) : dec10 u = dec10 (u / 10) ++ [dgB u] := by rw [dec10, if_neg (by omega)]
theorem dec10_last (u : Nat) : dec10 u = (dec10 u).dropLast ++ [dgB u] := by
  rcases Nat.lt_or_ge 9 u with h | h
  · rw [dec10_gt h]; simp
  · rw [dec10_le h]; rfl
theorem dec10_drop {u : Nat} (h : 9 < u) : (dec10 u).dropLast = dec10 (u / 10) := by rw [dec10_gt h]; simp
theorem dec10_drop0 {u : Nat} (h : u ≤ 9) : (dec10 u).dropLast = [] := by rw [dec10_le h]; rfl
theorem dgB_nat (u : Nat) : (dgB u).toNat = 48 + u % 10 := dg_nat u
theorem lead_app (a : List UInt8) (x : UInt8) : lead (a ++ [x]) = if lead a = [] then lead [x] else lead a ++ [x] := by
  induction a with
  | nil => rfl
  | cons c a ih =>
    by_cases hc : c.toNat = 48
    · rw [List.cons_append, lead_cons48 hc, lead_cons48 hc, ih]
    · rw [List.cons_append, lead_cons hc, lead_cons hc, if_neg (by simp)]; rfl
theorem lead_dgs : ∀ (k v : Nat), v < 10 ^ k → lead (dgs k v) = if v = 0 then [] else dec10 v := by
  intro k
  induction k with
  | zero => intro v h; have : v = 0 := by simp at h; exact h
            subst this; rfl
  | succ k ih =>
    intro v h
    have hv : v / 10 < 10 ^ k := by rw [Nat.pow_succ] at h; omega
    show lead (dgs k (v / 10) ++ [dgB v]) = _
    rw [lead_app, ih _ hv]
    by_cases h0 : v / 10 = 0
    · rw [if_pos h0, if_pos rfl]
      by_cases hz : v = 0
      · subst hz; rw [if_pos rfl]; exact lead_cons48 (by rw [dgB_nat]) []
      · rw [if_neg hz, dec10_le (by omega)]
        exact lead_cons (by rw [dgB_nat]; omega) []
    · rw [if_neg h0, if_neg (by rw [dec10]; split <;> simp), if_neg (by omega), ← dec10_gt (by omega)]
def d30 (m : Nat) : List UInt8 := dgs 30 m
def d29 (m : Nat) : List UInt8 := dgs 29 m
def d6 (m : Nat) : List UInt8 := dgs 6 m
theorem d36_split (m : Nat) : d36 m = d30 (m / 1000000) ++ d6 (m % 1000000) := (dgsAB 30 6 m 1000000 (by decide)).symm
theorem d30_eq (u : Nat) : d30 u = d29 (u / 10) ++ [dgB u] := rfl
theorem d29_len (u : Nat) : (d29 u).length = 29 := dgs_len 29 u
theorem d30_len (u : Nat) : (d30 u).length = 30 := dgs_len 30 u
theorem d6_0 : d6 0 = zer 6 := by decide
theorem who_int {u : Nat} (h : u ≤ 9223372036854775808) : whoL (u * 1000000) = dec10 u ∧ fraL (u * 1000000) = [] := by
  have e : d36 (u * 1000000) = d29 (u / 10) ++ ([dgB u] ++ zer 6) := by
    rw [d36_split, Nat.mul_div_cancel _ (by omega : 0 < 1000000), Nat.mul_mod_left, d6_0, d30_eq, List.append_assoc]
  constructor
  · unfold whoL
    rw [e, List.take_left' (d29_len _), List.drop_left' (d29_len _)]
    show lead (d29 (u / 10)) ++ [dgB u] = _
    have hl : lead (d29 (u / 10)) = if u / 10 = 0 then [] else dec10 (u / 10) := lead_dgs 29 (u / 10) (Nat.lt_of_le_of_lt (by omega : u / 10 ≤ 922337203685477581) (by decide))
    rw [hl]
    by_cases h0 : u / 10 = 0
    · rw [if_pos h0, dec10_le (by omega)]; rfl
    · rw [if_neg h0]; exact (dec10_gt (u := u) (by omega)).symm
  · unfold fraL
    rw [e, ← List.append_assoc, List.drop_left' (by rw [List.length_append, d29_len]; rfl)]
    decide
theorem text_int {n : Int} (h : i64B n) : goodB (negZ (n * 1000000)) (n * 1000000).natAbs = true ∧ textL (negZ (n * 1000000)) (n * 1000000).natAbs = (if n < 0 then [45] else []) ++ dec10 n.natAbs := by
  unfold i64B at h
  have hm : (n * 1000000).natAbs = n.natAbs * 1000000 := by omega
  have hg : goodB (negZ (n * 1000000)) (n * 1000000).natAbs = true := by
    rw [goodB_z, decide_eq_true_iff, topN_eq]; omega
  refine ⟨hg, ?_⟩
  rw [text_eq hg, hm]
  obtain ⟨h1, h2⟩ := who_int (u := n.natAbs) (by omega)
  have hs : (if negZ (n * 1000000) = true then ([45] : List UInt8) else []) = if n < 0 then [45] else [] := by
    unfold negZ
    by_cases hn : n < 0
    · rw [if_pos hn, decide_eq_true (by omega)]; rfl
    · rw [if_neg hn, decide_eq_false (by omega)]; rfl
  rw [h1, h2, if_pos rfl, List.append_nil, hs]
theorem int_back {n : Int} (h : i64B n) : whV (negZ (n * 1000000)) ((n * 1000000).natAbs / 1000000) = n ∧ whB (negZ (n * 1000000)) ((n * 1000000).natAbs / 1000000) = true := by
  unfold i64B at h
  have hm : (n * 1000000).natAbs / 1000000 = n.natAbs := by omega
  rw [hm]
  unfold whV whB negZ
  by_cases hn : n < 0
  · rw [decide_eq_true (by omega)]; simp; omega
  · rw [decide_eq_false (by omega)]; simp; omega

theorem run_dg (u : Nat) (w : World) : (convert 22 9 (.slice (some ⟨w.heap.size, 0, none⟩) 1 1)).run Tryd.prog (w.alloc (.cells #[.int .u8 (48 + (u : Int) % 10)] 5)) = .ok (.string (S8 [dgB u])) (w.alloc (.cells #[.int .u8 (48 + (u : Int) % 10)] 5)) := by
  have h := (Own8.new w [dgB u] 5 (by simp [maxLen])).bs
  have e : (bvs [dgB u]).toArray = #[.int .u8 (48 + (u : Int) % 10)] := by
    unfold bvs bv; simp only [List.map_cons, List.map_nil]; rw [dgB_nat]; rfl
  rw [e] at h
  exact run_str h
theorem dec_z (n : Int) (h : i64B n) : n.natAbs ≤ 9223372036854775808 := by unfold i64B at h; omega

set_option maxRecDepth 100000 in
set_option maxHeartbeats 8000000 in
theorem ints_core (n : Int) (neg : Bool) (u0 : Nat) (T : List UInt8) (hu : u0 ≤ 9223372036854775808) (hT : T = (if neg then [45] else []) ++ dec10 u0) (hl : T.length ≤ 38)
    (hneg : decide (n < 0) = neg) (hv : (if neg then IntKind.u64.wrap (-IntKind.u64.wrap n) else IntKind.u64.wrap n) = (u0 : Int)) (z : Int)
    (HI : Hid (∀ w, Calls Tryd.prog 21 #[.int .i64 n] w fun e w' => e = .returned (ZV z) ∧ Below w.heap.size w w'))
    (HT : Hid (∀ w, Calls Tryd.prog 18 #[ZV z] w fun e w' => e = .returned (.string (S8 T)) ∧ Below w.heap.size w w'))
    (HP : Hid (∀ W, Calls Tryd.prog 10 #[.slice (some ⟨W.heap.size, 0, none⟩) T.length (cvCap W T)] (cvW W T) fun e w' => e = .returned (.tuple #[ZV z, .int .i64 ((T.length : Nat) : Int), .nilIface]) ∧ Below (cvW W T).heap.size (cvW W T) w'))
    (HW : Hid (∀ w, Calls Tryd.prog 22 #[ZV z] w fun e w' => e = .returned (.tuple #[.int .i64 n, .bool true]) ∧ Below w.heap.size w w')) (w : World) :
    Calls Tryd.prog 8 #[.int .i64 n] w fun e w' => e = .returned (.bool true) ∧ Below w.heap.size w w' := by
  have HA : Hid (∀ w, Calls Tryd.prog 9 #[] w fun e w' => e = .returned (.bool true) ∧ Below w.heap.size w w') := awake2
  have hln := s8_len T
  have kc := run_cv T
  have HC := Lib.hid (fun W => cv_below W T)
  have HCS := Lib.hid (fun W => cv_size W T)
  have HT' := Lib.hid hT
  have HV := Lib.hid hv
  clear hT hv
  cases neg
  · have hn : decide (n < 0) = false := hneg
    have hv := HV.out
    simp only [Bool.false_eq_true, if_false] at hv
    have HTT : Hid (T = dec10 u0) := by show _ = _; rw [HT'.out]; rfl
    have HD0 : Hid ((dec10 u0).length ≤ 38) := by
      have h1 := congrArg List.length HTT.out
      skip
      show _ ≤ _; omega
    clear hneg HV HT'
    go_enter Tryd.func8, Tryd.ntmps8
    go_wp2_with fail; refine (HA.out _).mono ?_; rintro ew1 w1 ⟨rfl, hbw1⟩; obtain ⟨hcw1, hfw1⟩ := bcell hbw1; (try simp only [World.size_drew, World.cell?_drew, World.frozen?_drew] at hcw1 hfw1); have hzw1 := hbw1.size; (try simp at hzw1); (try dsimp only)
    go_wp2_with fail
    refine (HI.out _).mono ?_; rintro ew2 w2 ⟨rfl, hbw2⟩; obtain ⟨hcw2, hfw2⟩ := bcell hbw2; (try simp only [World.size_drew, World.cell?_drew, World.frozen?_drew] at hcw2 hfw2); have hzw2 := hbw2.size; (try simp at hzw2); (try dsimp only)
    go_wp2_with fail
    refine (HT.out _).mono ?_; rintro ew3 w3 ⟨rfl, hbw3⟩; obtain ⟨hcw3, hfw3⟩ := bcell hbw3; (try simp only [World.size_drew, World.cell?_drew, World.frozen?_drew] at hcw3 hfw3); have hzw3 := hbw3.size; (try simp at hzw3); (try dsimp only)
    have hB3 : Below w.heap.size w w3 := by repeat (first | (with_reducible exact Below.refl _ _) | (with_reducible refine Below.drew ?_) | (refine Below.setCell ?_ (by first | exact Nat.le_refl _ | (simp; done) | (simp; omega) | omega) _) | (refine Below.alloc ?_ (by first | exact Nat.le_refl _ | (simp; done) | (simp; omega) | omega) _) | (refine Below.trans ?_ (Below.mono (by assumption) (by first | exact Nat.le_refl _ | (simp; done) | (simp; omega) | omega))))
    clear hcw1 hfw1 hcw2 hfw2 hcw3 hfw3 hbw1 hbw2 hbw3
    go_upto_region 7 with fail
    clear hv
    have hu0 : (0 : Int) ≤ (u0 : Int) := by omega
    have hu1 : (u0 : Int) ≤ 9223372036854775808 := by omega
    have hm0 : (0 : Int) ≤ (u0 : Int) % 10 := by omega
    have hm1 : (u0 : Int) % 10 < 10 := by omega
    have hdg := run_dg u0
    go_upto_region 8 with fail
    clear hdg
    go_loopw [4, 5] (fun u q wr => ∃ (j : Nat) (Wl : List UInt8), u = .int .u64 (j : Int) ∧ j ≤ u0 ∧ q = .string (S8 Wl) ∧ Hid ((dec10 j).dropLast ++ Wl = dec10 u0) ∧ Below w.heap.size w wr) (fun u _ _ => (intOf u).toNat)
    case atStart => exact ⟨u0, [dgB u0], rfl, Nat.le_refl _, rfl, (dec10_last u0).symm, hB3.alloc hB3.size _⟩
    case round =>
      obtain ⟨j, Wl, rfl, hj, rfl, hr, hB⟩ := hrel
      have hWl : Hid (Wl.length ≤ 38) := by
        have h1 := congrArg List.length hr.out
        rw [List.length_append] at h1
        have := HD0.out
        show _ ≤ _; omega
      by_cases h9 : 9 < j
      · have t9 : decide ((9 : Int) < (j : Int)) = true := decide_eq_true (by omega)
        have j0 : (0 : Int) ≤ (j : Int) := by omega
        have j1 : (j : Int) ≤ 9223372036854775808 := by omega
        have j2 : (0 : Int) ≤ (j : Int) / 10 := by omega
        have j3 : (0 : Int) ≤ (j : Int) / 10 % 10 := by omega
        have j4 : (j : Int) / 10 % 10 < 10 := by omega
        have j5 : (j : Int) / 10 ≤ 9223372036854775808 := by omega
        have hdg : ∀ W : World, (convert 22 9 (.slice (some ⟨W.heap.size, 0, none⟩) 1 1)).run Tryd.prog (W.alloc (.cells #[.int .u8 (48 + (j : Int) / 10 % 10)] 5)) = .ok (.string (S8 [dgB (j / 10)])) (W.alloc (.cells #[.int .u8 (48 + (j : Int) / 10 % 10)] 5)) := fun W => run_dg (j / 10) W
        have a1 : ∀ W, (Op.stringOp .add (S8 [dgB (j / 10)]) (S8 Wl)).run Tryd.prog W = .ok (.string (S8 (dgB (j / 10) :: Wl))) W := s8_add [dgB (j / 10)] Wl (by have := hWl.out; simp only [List.length_cons, List.length_nil]; omega)
        have hr' : Hid ((dec10 (j / 10)).dropLast ++ (dgB (j / 10) :: Wl) = dec10 u0) := by
          show _ = _
          rw [← hr.out, dec10_drop h9]
          conv => rhs; rw [dec10_last (j / 10)]
          simp
        have hBn : ∀ o, Below w.heap.size w (wr.alloc o) := fun o => hB.alloc hB.size o
        have HBn := Lib.hid hBn
        have H9 := Lib.hid h9
        clear hr hWl h9 hBn
        obtain ⟨sn, hsn⟩ : ∃ sn, sn = S8 (dgB (j / 10) :: Wl) := ⟨_, rfl⟩
        rw [← hsn] at a1
        have HSN := Lib.hid hsn
        clear hsn
        generalize S8 [dgB (j / 10)] = sd at *
        generalize S8 Wl = so at *
        go_wp2
        go_roundw
        case rel => exact ⟨j / 10, _, by go_num, by omega, by rw [HSN.out], hr', HBn.out _⟩
        case measure => have := H9.out; simp [intOf]; omega
      · have t9 : decide ((9 : Int) < (j : Int)) = false := decide_eq_false (by omega)
        have HW0 : Hid (Wl = dec10 u0) := by show _ = _; rw [← hr.out, dec10_drop0 (by omega)]; rfl
        have e1 : S8 Wl = S8 T := by rw [HTT.out, HW0.out]
        rw [e1]
        clear e1
        clear hr hWl h9 HW0 HTT HD0
        go_wp2_with fail
        refine (HP.out _).mono ?_
        rintro e w5 ⟨rfl, hb5⟩
        have hB5 : Below w.heap.size w w5 := (hB.trans ((HC.out wr).mono hB.size)).trans (hb5.mono (by rw [HCS.out]; have := hB.size; omega))
        clear hB hb5 hB3
        go_wp2_with fail
        refine (HW.out _).mono ?_; rintro ew6 w6 ⟨rfl, hbw6⟩; obtain ⟨hcw6, hfw6⟩ := bcell hbw6; (try simp only [World.size_drew, World.cell?_drew, World.frozen?_drew] at hcw6 hfw6); have hzw6 := hbw6.size; (try simp at hzw6); (try dsimp only)
        go_wp2
        go_ret
        exact ⟨rfl, (hB5.alloc hB5.size _).trans (hbw6.mono (by have := hB5.size; simp; omega))⟩
  · have hn : decide (n < 0) = true := hneg
    have hv := HV.out
    simp only [if_true] at hv
    have HTT : Hid (T = 45 :: dec10 u0) := by show _ = _; rw [HT'.out]; rfl
    have HD0 : Hid ((dec10 u0).length ≤ 38) := by
      have h1 := congrArg List.length HTT.out
      simp only [List.length_cons] at h1
      show _ ≤ _; omega
    clear hneg HV HT'
    go_enter Tryd.func8, Tryd.ntmps8
    go_wp2_with fail; refine (HA.out _).mono ?_; rintro ew1 w1 ⟨rfl, hbw1⟩; obtain ⟨hcw1, hfw1⟩ := bcell hbw1; (try simp only [World.size_drew, World.cell?_drew, World.frozen?_drew] at hcw1 hfw1); have hzw1 := hbw1.size; (try simp at hzw1); (try dsimp only)
    go_wp2_with fail
    refine (HI.out _).mono ?_; rintro ew2 w2 ⟨rfl, hbw2⟩; obtain ⟨hcw2, hfw2⟩ := bcell hbw2; (try simp only [World.size_drew, World.cell?_drew, World.frozen?_drew] at hcw2 hfw2); have hzw2 := hbw2.size; (try simp at hzw2); (try dsimp only)
    go_wp2_with fail
    refine (HT.out _).mono ?_; rintro ew3 w3 ⟨rfl, hbw3⟩; obtain ⟨hcw3, hfw3⟩ := bcell hbw3; (try simp only [World.size_drew, World.cell?_drew, World.frozen?_drew] at hcw3 hfw3); have hzw3 := hbw3.size; (try simp at hzw3); (try dsimp only)
    have hB3 : Below w.heap.size w w3 := by repeat (first | (with_reducible exact Below.refl _ _) | (with_reducible refine Below.drew ?_) | (refine Below.setCell ?_ (by first | exact Nat.le_refl _ | (simp; done) | (simp; omega) | omega) _) | (refine Below.alloc ?_ (by first | exact Nat.le_refl _ | (simp; done) | (simp; omega) | omega) _) | (refine Below.trans ?_ (Below.mono (by assumption) (by first | exact Nat.le_refl _ | (simp; done) | (simp; omega) | omega))))
    clear hcw1 hfw1 hcw2 hfw2 hcw3 hfw3 hbw1 hbw2 hbw3
    go_upto_region 7 with fail
    clear hv
    have hu0 : (0 : Int) ≤ (u0 : Int) := by omega
    have hu1 : (u0 : Int) ≤ 9223372036854775808 := by omega
    have hm0 : (0 : Int) ≤ (u0 : Int) % 10 := by omega
    have hm1 : (u0 : Int) % 10 < 10 := by omega
    have hdg := run_dg u0
    go_upto_region 8 with fail
    clear hdg
    go_loopw [4, 5] (fun u q wr => ∃ (j : Nat) (Wl : List UInt8), u = .int .u64 (j : Int) ∧ j ≤ u0 ∧ q = .string (S8 Wl) ∧ Hid ((dec10 j).dropLast ++ Wl = dec10 u0) ∧ Below w.heap.size w wr) (fun u _ _ => (intOf u).toNat)
    case atStart => exact ⟨u0, [dgB u0], rfl, Nat.le_refl _, rfl, (dec10_last u0).symm, hB3.alloc hB3.size _⟩
    case round =>
      obtain ⟨j, Wl, rfl, hj, rfl, hr, hB⟩ := hrel
      have hWl : Hid (Wl.length ≤ 38) := by
        have h1 := congrArg List.length hr.out
        rw [List.length_append] at h1
        have := HD0.out
        show _ ≤ _; omega
      by_cases h9 : 9 < j
      · have t9 : decide ((9 : Int) < (j : Int)) = true := decide_eq_true (by omega)
        have j0 : (0 : Int) ≤ (j : Int) := by omega
        have j1 : (j : Int) ≤ 9223372036854775808 := by omega
        have j2 : (0 : Int) ≤ (j : Int) / 10 := by omega
        have j3 : (0 : Int) ≤ (j : Int) / 10 % 10 := by omega
        have j4 : (j : Int) / 10 % 10 < 10 := by omega
        have j5 : (j : Int) / 10 ≤ 9223372036854775808 := by omega
        have hdg : ∀ W : World, (convert 22 9 (.slice (some ⟨W.heap.size, 0, none⟩) 1 1)).run Tryd.prog (W.alloc (.cells #[.int .u8 (48 + (j : Int) / 10 % 10)] 5)) = .ok (.string (S8 [dgB (j / 10)])) (W.alloc (.cells #[.int .u8 (48 + (j : Int) / 10 % 10)] 5)) := fun W => run_dg (j / 10) W
        have a1 : ∀ W, (Op.stringOp .add (S8 [dgB (j / 10)]) (S8 Wl)).run Tryd.prog W = .ok (.string (S8 (dgB (j / 10) :: Wl))) W := s8_add [dgB (j / 10)] Wl (by have := hWl.out; simp only [List.length_cons, List.length_nil]; omega)
        have hr' : Hid ((dec10 (j / 10)).dropLast ++ (dgB (j / 10) :: Wl) = dec10 u0) := by
          show _ = _
          rw [← hr.out, dec10_drop h9]
          conv => rhs; rw [dec10_last (j / 10)]
          simp
        have hBn : ∀ o, Below w.heap.size w (wr.alloc o) := fun o => hB.alloc hB.size o
        have HBn := Lib.hid hBn
        have H9 := Lib.hid h9
        clear hr hWl h9 hBn
        obtain ⟨sn, hsn⟩ : ∃ sn, sn = S8 (dgB (j / 10) :: Wl) := ⟨_, rfl⟩
        rw [← hsn] at a1
        have HSN := Lib.hid hsn
        clear hsn
        generalize S8 [dgB (j / 10)] = sd at *
        generalize S8 Wl = so at *
        go_wp2
        go_roundw
        case rel => exact ⟨j / 10, _, by go_num, by omega, by rw [HSN.out], hr', HBn.out _⟩
        case measure => have := H9.out; simp [intOf]; omega
      · have t9 : decide ((9 : Int) < (j : Int)) = false := decide_eq_false (by omega)
        have HW0 : Hid (Wl = dec10 u0) := by show _ = _; rw [← hr.out, dec10_drop0 (by omega)]; rfl
        have a1 : ∀ W, (Op.stringOp .add ⟨#[45]⟩ (S8 Wl)).run Tryd.prog W = .ok (.string (S8 T)) W := by
          intro W
          have := s8_add [45] Wl (by have := hWl.out; simp only [List.length_cons, List.length_nil]; omega) W
          rw [HTT.out, ← HW0.out]
          exact this
        clear hr hWl h9 HW0 HTT HD0
        go_wp2_with fail
        refine (HP.out _).mono ?_
        rintro e w5 ⟨rfl, hb5⟩
        have hB5 : Below w.heap.size w w5 := (hB.trans ((HC.out wr).mono hB.size)).trans (hb5.mono (by rw [HCS.out]; have := hB.size; omega))
        clear hB hb5 hB3
        go_wp2_with fail
        refine (HW.out _).mono ?_; rintro ew6 w6 ⟨rfl, hbw6⟩; obtain ⟨hcw6, hfw6⟩ := bcell hbw6; (try simp only [World.size_drew, World.cell?_drew, World.frozen?_drew] at hcw6 hfw6); have hzw6 := hbw6.size; (try simp at hzw6); (try dsimp only)
        go_wp2
        go_ret
        exact ⟨rfl, (hB5.alloc hB5.size _).trans (hbw6.mono (by have := hB5.size; simp; omega))⟩

theorem ints_w (n : Int) (h : i64B n) (w : World) :
    Calls Tryd.prog 8 #[.int .i64 n] w fun e w' => e = .returned (.bool true) ∧ Below w.heap.size w w' := by
  obtain ⟨hg, ht⟩ := text_int h
  have hl := text_len (negZ (n * 1000000)) (n * 1000000).natAbs
  have hb := text_back hg (R := []) (by simp [isDgt, hd8]) (by simp [hd8])
  rw [List.append_nil] at hb
  have hz : (if negZ (n * 1000000) then -(((n * 1000000).natAbs : Nat) : Int) else (((n * 1000000).natAbs : Nat) : Int)) = n * 1000000 := by
    unfold negZ
    by_cases hn : n < 0
    · rw [decide_eq_true (by omega), if_pos rfl]; omega
    · rw [decide_eq_false (by omega), if_neg (by decide)]; omega
  rw [hz] at hb
  have hm : (n * 1000000).natAbs < topN := by unfold goodB at hg; simp at hg; rw [topN_eq]; have := dec_z n h; omega
  refine ints_core n (decide (n < 0)) n.natAbs (textL (negZ (n * 1000000)) (n * 1000000).natAbs) (dec_z n h) ?_ hl rfl ?_ (n * 1000000) (fun w => int_z n h w) (fun w => text_u _ _ w) ?_ ?_ w
  · rw [ht]; by_cases hn : n < 0 <;> simp [hn]
  · by_cases hn : n < 0
    · rw [decide_eq_true hn, if_pos rfl]; exact ones_neg h hn
    · rw [decide_eq_false hn, if_neg (by decide)]; exact ones_wrap h (by omega)
  · intro W
    have := prefix_u (cv_bs W (textL (negZ (n * 1000000)) (n * 1000000).natAbs) (by unfold maxLen; omega)) (by omega)
    rw [hb.1, hb.2] at this
    have e1 : fitZ (n * 1000000) = n * 1000000 := by unfold fitZ; rw [if_pos hm]
    have e2 : fitC (n * 1000000).natAbs = 0 := by unfold fitC; rw [if_pos hm]
    rw [e1, e2] at this
    exact this
  · intro w
    have := whole_m (negZ (n * 1000000)) (n * 1000000).natAbs hg w
    rw [(int_back h).1, (int_back h).2] at this
    exact this
end Go.Proofs.YtfecnogmjfmghaaDoor
