/- The walk of CharsetBrackets, whole. -/
import Derived.Test.YtfmekmbdienbjaaDoorSetBrkW
import Derived.Test.YtfmekmbdienbjaaDoorSetArg
import Derived.Test.YtfmekmbdienbjaaDoorSetRC
import Derived.Test.YtfmekmbdienbjaaDoorSetRD
import Derived.Test.YtfmekmbdienbjaaDoorSetN
namespace Go.Proofs.YtfmekmbdienbjaaDoor
set_option linter.unusedSimpArgs false
set_option linter.unusedVariables false
set_option linter.unnecessarySimpa false
open Go.RowKit

theorem gZ_base : gZ = baseG nonP := by kernel_rfl
theorem baseG_get (p : Nat → Bool) {k : Nat} (h : k < 256) : (baseG p)[k]? = some (.bool (p k)) := by
  unfold baseG
  rw [Array.getElem?_append_left (by rw [bolA_size]; exact h)]
  exact bolA_get p h
theorem baseG_end (p : Nat → Bool) (j : Nat) (h : j < 3) : (baseG p)[256 + j]? = some (.int .i64 0) := by
  unfold baseG
  rw [Array.getElem?_append_right (by rw [bolA_size]; omega), bolA_size, Nat.add_sub_cancel_left]
  rcases j with _ | _ | _ | j
  · rfl
  · rfl
  · rfl
  · omega
theorem set_get_ne (L : List Value) (k j : Nat) (v : Value) (h : k ≠ j) : (L.set k v)[j]? = L[j]? := List.getElem?_set_ne h
theorem set_get_eq (L : List Value) (k : Nat) (v : Value) (h : k < L.length) : (L.set k v)[k]? = some v := List.getElem?_set_self h
theorem memM_code {l : List UInt8} {k a c : Nat} (h : memM l k = .bad a c) : 1 ≤ c ∧ c ≤ 25 := by
  unfold memM at h
  split at h
  · unfold clasM at h
    split at h
    · injection h with _ h2; omega
    · split at h
      · injection h with _ h2; omega
      · cases h
  · split at h
    · injection h with _ h2; omega
    · split at h
      · cases h
      · split at h
        · injection h with _ h2; omega
        · split at h
          · injection h with _ h2; omega
          · split at h
            · injection h with _ h2; omega
            · cases h
theorem runB_code {l : List UInt8} {k : Nat} {f : Bool} {p : Nat → Bool} {R : MR} (h : RunB l k f p R) : ∀ a c, R = .bad a c → 1 ≤ c ∧ c ≤ 25 := by
  induction h with
  | stop => intro a c e; cases e
  | bad k f p a c hf hm => intro a' c' e; injection e with e1 e2; subst e2; exact memM_code hm
  | step k f p q n R hf hm hR ih => exact ih
theorem rbrk_u (l : List UInt8) (hl : l.length ≤ 1000000000) (k : Nat) (hk : isL l k 91 = true) (R : MR) (hR : RunB l (begB l k) true nonP R) (w : World) :
    Calls Tryd.prog 8 #[.string (S8 l), .int .i64 (k : Int)] w fun e w' => EndG (isL l (k + 1) 94) k R w e w' := by
  unfold begB at hR
  cases ho : isL l (k + 1) 94
  · rw [ho] at hR
    exact rbrk_f l hl k hk ho R hR w
  · rw [ho] at hR
    exact rbrk_t l hl k hk ho R hR w
theorem brackets_bad {p : Option Addr} {cp : Nat} {l : List UInt8} {w : World} (h : BS w (.slice p l.length cp) l) (hl : l.length ≤ 200) (hM : HM w) (hE : HE w) (at_ : Int) (a c : Nat) (h1 : 1 ≤ c) (h25 : c ≤ 25)
    (GA : Array Value) (hGs : GA.size = 259) (hGo : ∀ v ∈ GA.toList, v.oneCell' = true) (hG : ∀ k, k < 256 → GA[k]? = some (.bool (nonP k)))
    (g1 : GA[256]? = some (.int .i64 0)) (g2 : GA[257]? = some (.int .i64 (c : Int))) (g3 : GA[258]? = some (.int .i64 (a : Int)))
    (HP : ∀ W, Below w.heap.size w W → Calls Tryd.prog 7 #[.slice p l.length cp, .int .i64 at_] W fun e w' => BadR W e w' a c)
    (HQ : ∀ W, Calls Tryd.prog 8 #[.string (S8 l), .int .i64 at_] W fun e w' => e = .returned (.agg GA) ∧ Below W.heap.size W w') :
    Calls Tryd.prog 3 #[.slice p l.length cp, .int .i64 at_] w fun e w' => e = .returned (.bool true) ∧ Below w.heap.size w w' := by
  refine brackets_core h hl at_ nonP 0 (c : Int) (a : Int) (fun W ev => IsF W ev a c) (fun W W' ev hv hb => hv.on hb) GA hGs hGo hG g1 g2 g3 (awake3 w hM) ?_ HQ ?_ ?_
  · intro W hW
    refine (HP W hW).mono ?_
    rintro e w' ⟨b, rfl, hb, hr, hB⟩
    exact ⟨_, by rw [setV_non], ⟨b, rfl, hr⟩, hB⟩
  · rintro W ev ⟨b, rfl, hr⟩
    exact code_fault b c h1 h25 W (by rw [hr.cell]; rfl)
  · rintro _ W ev hW ⟨b, rfl, hr⟩
    exact place_fault b (a : Int) W (hE.on hW) hr.lt (by rw [hr.cell]; rfl)
theorem brackets_w {v : Value} {l : List UInt8} {w : World} (h : BS w v l) (hM : HM w) (hE : HE w) (at_ : Int) :
    Calls Tryd.prog 3 #[v, .int .i64 at_] w fun e w' => e = .returned (.bool true) ∧ Below w.heap.size w w' := by
  have H := Lib.hid h
  obtain ⟨p, cp, rfl, hlc, hcm, hU⟩ := h
  by_cases hl : l.length ≤ 200
  · by_cases hk : ∃ k : Nat, at_ = (k : Int) ∧ isL l k 91 = true
    · obtain ⟨k, rfl, hk⟩ := hk
      have hbl := begB_le hk
      obtain ⟨R, hR⟩ := runB_ex l l.length (begB l k) (by omega) hbl true nonP
      have hP := fun W (hW : Below w.heap.size w W) => brk_u (H.out.on hW) (by omega) (hM.on hW) k hk R hR
      have hQ := fun W => rbrk_u l (by omega) k hk R hR W
      cases R with
      | ok q n =>
        refine brackets_core H.out hl (k : Int) (turnP (isL l (k + 1) 94) q) ((n : Int) + 1 - (k : Int)) 0 0 (fun W ev => ev = .nilIface) (fun W W' ev hv hb => hv) (goodG (turnP (isL l (k + 1) 94) q) ((n : Int) + 1 - (k : Int))).toArray
          (by rw [List.size_toArray, goodG_len]) (by simpa using goodG_one _ _) ?_ ?_ ?_ ?_ (awake3 w hM) ?_ hQ ?_ (fun h => absurd rfl h)
        · intro j hj
          rw [List.getElem?_toArray]; unfold goodG
          rw [set_get_ne _ _ _ _ (by omega), Array.getElem?_toList]; exact baseG_get _ hj
        · rw [List.getElem?_toArray]; unfold goodG
          rw [set_get_eq _ _ _ (by rw [Array.length_toList, baseG_size]; omega)]
        · rw [List.getElem?_toArray]; unfold goodG
          rw [set_get_ne _ _ _ _ (by omega), Array.getElem?_toList]; exact baseG_end _ 1 (by omega)
        · rw [List.getElem?_toArray]; unfold goodG
          rw [set_get_ne _ _ _ _ (by omega), Array.getElem?_toList]; exact baseG_end _ 2 (by omega)
        · intro W hW
          refine (hP W hW).mono ?_
          rintro e w' ⟨rfl, hB⟩
          exact ⟨_, rfl, rfl, hB⟩
        · rintro W ev rfl
          exact code_nil W
      | bad a c =>
        have hc := runB_code hR a c rfl
        refine brackets_bad H.out hl hM hE (k : Int) a c hc.1 hc.2 (badG (c : Int) (a : Int)).toArray (by rw [List.size_toArray, badG_len]) (by simpa using badG_one _ _) ?_ ?_ ?_ ?_ hP hQ
        · intro j hj
          rw [List.getElem?_toArray]; unfold badG
          rw [set_get_ne _ _ _ _ (by omega), set_get_ne _ _ _ _ (by omega), Array.getElem?_toList, gZ_base]; exact baseG_get _ hj
        · rw [List.getElem?_toArray]; unfold badG
          rw [set_get_ne _ _ _ _ (by omega), set_get_ne _ _ _ _ (by omega), Array.getElem?_toList, gZ_base]; exact baseG_end _ 0 (by omega)
        · rw [List.getElem?_toArray]; unfold badG
          rw [set_get_ne _ _ _ _ (by omega), set_get_eq _ _ _ (by rw [Array.length_toList, gZ_size]; omega)]
        · rw [List.getElem?_toArray]; unfold badG
          rw [set_get_eq _ _ _ (by rw [List.length_set, Array.length_toList, gZ_size]; omega)]
    · have hat : ∀ k : Nat, at_ = (k : Int) → isL l k 91 = false := by
        intro k e
        cases h9 : isL l k 91
        · rfl
        · exact absurd ⟨k, e, h9⟩ hk
      refine brackets_bad H.out hl hM hE at_ 0 1 (by omega) (by omega) (gZ.toList.set 257 (.int .i64 1)).toArray (by rw [List.size_toArray, List.length_set, Array.length_toList, gZ_size]) (by simpa using set_one gZ_ones _ _ rfl) ?_ ?_ ?_ ?_ (fun W hW => brk_arg (H.out.on hW) at_ hat) (fun W => rbrk_arg l at_ hat W)
      · intro j hj
        rw [List.getElem?_toArray, set_get_ne _ _ _ _ (by omega), Array.getElem?_toList, gZ_base]; exact baseG_get _ hj
      · rw [List.getElem?_toArray, set_get_ne _ _ _ _ (by omega), Array.getElem?_toList, gZ_base]; exact baseG_end _ 0 (by omega)
      · rw [List.getElem?_toArray, set_get_eq _ _ _ (by rw [Array.length_toList, gZ_size]; omega)]; rfl
      · rw [List.getElem?_toArray, set_get_ne _ _ _ _ (by omega), Array.getElem?_toList, gZ_base]; exact baseG_end _ 2 (by omega)
  · have t0 : decide ((200 : Int) < (l.length : Int)) = true := decide_eq_true (by omega)
    have t1 : decide (200 < l.length) = true := decide_eq_true (by omega)
    have HC0 := Lib.hid (awake3 w hM)
    clear hU H hM hE
    go_enter Tryd.func3, Tryd.ntmps3
    go_wp2_with fail
    refine (HC0.out).mono ?_
    rintro e1 w1 ⟨rfl, hb1⟩
    have HB1 := Lib.hid hb1
    clear hb1
    go_wp2
    go_ret
    exact ⟨rfl, HB1.out⟩
end Go.Proofs.YtfmekmbdienbjaaDoor
