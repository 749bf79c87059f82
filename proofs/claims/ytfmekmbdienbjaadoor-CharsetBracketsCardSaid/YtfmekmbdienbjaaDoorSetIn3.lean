/- The document's own classes: In. -/
import Derived.Test.YtfmekmbdienbjaaDoorSetD
namespace Go.Proofs.YtfmekmbdienbjaaDoor
set_option linter.unusedSimpArgs false
set_option linter.unusedVariables false
set_option linter.unnecessarySimpa false
open Go.RowKit
set_option maxRecDepth 100000 in
set_option maxHeartbeats 8000000 in
theorem in_blank (c : Nat) (hc : c < 256) (s : ByteArray) (hs : s.toList = [98, 108, 97, 110, 107]) (w : World) :
    Calls Tryd.prog 28 #[.string s, .int .i64 (c : Int)] w fun e w' => e = .returned (.tuple #[.bool (((fun x => (nonP) x || (rgsF nonP [9, 9, 32, 32]) x)) c), .bool true]) ∧ w = w' := by
  have t0 : (s.toList == [97, 108, 112, 104, 97]) = false := by rw [hs]; rfl
  have t1 : (s.toList == [100, 105, 103, 105, 116]) = false := by rw [hs]; rfl
  have t2 : (s.toList == [97, 108, 110, 117, 109]) = false := by rw [hs]; rfl
  have t3 : (s.toList == [117, 112, 112, 101, 114]) = false := by rw [hs]; rfl
  have t4 : (s.toList == [108, 111, 119, 101, 114]) = false := by rw [hs]; rfl
  have t5 : (s.toList == [115, 112, 97, 99, 101]) = false := by rw [hs]; rfl
  have t6 : (s.toList == [98, 108, 97, 110, 107]) = true := by rw [hs]; rfl
  clear hs
  rcases (by omega : (0 ≤ c ∧ c ≤ 8) ∨ (9 ≤ c ∧ c ≤ 9) ∨ (10 ≤ c ∧ c ≤ 31) ∨ (32 ≤ c ∧ c ≤ 32) ∨ (33 ≤ c ∧ c ≤ 47) ∨ (48 ≤ c ∧ c ≤ 57) ∨ (58 ≤ c ∧ c ≤ 64) ∨ (65 ≤ c ∧ c ≤ 90) ∨ (91 ≤ c ∧ c ≤ 96) ∨ (97 ≤ c ∧ c ≤ 122) ∨ (123 ≤ c ∧ c ≤ 255)) with ⟨hlo, hhi⟩ | ⟨hlo, hhi⟩ | ⟨hlo, hhi⟩ | ⟨hlo, hhi⟩ | ⟨hlo, hhi⟩ | ⟨hlo, hhi⟩ | ⟨hlo, hhi⟩ | ⟨hlo, hhi⟩ | ⟨hlo, hhi⟩ | ⟨hlo, hhi⟩ | ⟨hlo, hhi⟩
  · have hb : ((fun x => (nonP) x || (rgsF nonP [9, 9, 32, 32]) x)) c = false := (by decide +kernel : ∀ c, c < 256 → 0 ≤ c → c ≤ 8 → ((fun x => (nonP) x || (rgsF nonP [9, 9, 32, 32]) x)) c = false) c hc hlo hhi
    rw [hb]
    have g48 : decide ((48 : Int) ≤ (c : Int)) = false := decide_eq_false (by omega)
    have g65 : decide ((65 : Int) ≤ (c : Int)) = false := decide_eq_false (by omega)
    have g97 : decide ((97 : Int) ≤ (c : Int)) = false := decide_eq_false (by omega)
    have l57 : decide ((c : Int) ≤ 57) = true := decide_eq_true (by omega)
    have l90 : decide ((c : Int) ≤ 90) = true := decide_eq_true (by omega)
    have l122 : decide ((c : Int) ≤ 122) = true := decide_eq_true (by omega)
    have e9 : ((c : Int) == 9) = false := by rw [beq_eq_false_iff_ne]; omega
    have e32 : ((c : Int) == 32) = false := by rw [beq_eq_false_iff_ne]; omega
    clear hb hlo hhi hc
    go_enter Tryd.func28, Tryd.ntmps28
    go_wp2
    refine bodyPost_ret (v := .tuple #[.bool false, .bool true]) (by simp [results, Tryd.results28, go_sem, *]) rfl ⟨rfl, ?_⟩
    rfl
  · have hb : ((fun x => (nonP) x || (rgsF nonP [9, 9, 32, 32]) x)) c = true := (by decide +kernel : ∀ c, c < 256 → 9 ≤ c → c ≤ 9 → ((fun x => (nonP) x || (rgsF nonP [9, 9, 32, 32]) x)) c = true) c hc hlo hhi
    rw [hb]
    have g48 : decide ((48 : Int) ≤ (c : Int)) = false := decide_eq_false (by omega)
    have g65 : decide ((65 : Int) ≤ (c : Int)) = false := decide_eq_false (by omega)
    have g97 : decide ((97 : Int) ≤ (c : Int)) = false := decide_eq_false (by omega)
    have l57 : decide ((c : Int) ≤ 57) = true := decide_eq_true (by omega)
    have l90 : decide ((c : Int) ≤ 90) = true := decide_eq_true (by omega)
    have l122 : decide ((c : Int) ≤ 122) = true := decide_eq_true (by omega)
    have e9 : ((c : Int) == 9) = true := by rw [beq_iff_eq]; omega
    have e32 : ((c : Int) == 32) = false := by rw [beq_eq_false_iff_ne]; omega
    clear hb hlo hhi hc
    go_enter Tryd.func28, Tryd.ntmps28
    go_wp2
    refine bodyPost_ret (v := .tuple #[.bool true, .bool true]) (by simp [results, Tryd.results28, go_sem, *]) rfl ⟨rfl, ?_⟩
    rfl
  · have hb : ((fun x => (nonP) x || (rgsF nonP [9, 9, 32, 32]) x)) c = false := (by decide +kernel : ∀ c, c < 256 → 10 ≤ c → c ≤ 31 → ((fun x => (nonP) x || (rgsF nonP [9, 9, 32, 32]) x)) c = false) c hc hlo hhi
    rw [hb]
    have g48 : decide ((48 : Int) ≤ (c : Int)) = false := decide_eq_false (by omega)
    have g65 : decide ((65 : Int) ≤ (c : Int)) = false := decide_eq_false (by omega)
    have g97 : decide ((97 : Int) ≤ (c : Int)) = false := decide_eq_false (by omega)
    have l57 : decide ((c : Int) ≤ 57) = true := decide_eq_true (by omega)
    have l90 : decide ((c : Int) ≤ 90) = true := decide_eq_true (by omega)
    have l122 : decide ((c : Int) ≤ 122) = true := decide_eq_true (by omega)
    have e9 : ((c : Int) == 9) = false := by rw [beq_eq_false_iff_ne]; omega
    have e32 : ((c : Int) == 32) = false := by rw [beq_eq_false_iff_ne]; omega
    clear hb hlo hhi hc
    go_enter Tryd.func28, Tryd.ntmps28
    go_wp2
    refine bodyPost_ret (v := .tuple #[.bool false, .bool true]) (by simp [results, Tryd.results28, go_sem, *]) rfl ⟨rfl, ?_⟩
    rfl
  · have hb : ((fun x => (nonP) x || (rgsF nonP [9, 9, 32, 32]) x)) c = true := (by decide +kernel : ∀ c, c < 256 → 32 ≤ c → c ≤ 32 → ((fun x => (nonP) x || (rgsF nonP [9, 9, 32, 32]) x)) c = true) c hc hlo hhi
    rw [hb]
    have g48 : decide ((48 : Int) ≤ (c : Int)) = false := decide_eq_false (by omega)
    have g65 : decide ((65 : Int) ≤ (c : Int)) = false := decide_eq_false (by omega)
    have g97 : decide ((97 : Int) ≤ (c : Int)) = false := decide_eq_false (by omega)
    have l57 : decide ((c : Int) ≤ 57) = true := decide_eq_true (by omega)
    have l90 : decide ((c : Int) ≤ 90) = true := decide_eq_true (by omega)
    have l122 : decide ((c : Int) ≤ 122) = true := decide_eq_true (by omega)
    have e9 : ((c : Int) == 9) = false := by rw [beq_eq_false_iff_ne]; omega
    have e32 : ((c : Int) == 32) = true := by rw [beq_iff_eq]; omega
    clear hb hlo hhi hc
    go_enter Tryd.func28, Tryd.ntmps28
    go_wp2
    refine bodyPost_ret (v := .tuple #[.bool true, .bool true]) (by simp [results, Tryd.results28, go_sem, *]) rfl ⟨rfl, ?_⟩
    rfl
  · have hb : ((fun x => (nonP) x || (rgsF nonP [9, 9, 32, 32]) x)) c = false := (by decide +kernel : ∀ c, c < 256 → 33 ≤ c → c ≤ 47 → ((fun x => (nonP) x || (rgsF nonP [9, 9, 32, 32]) x)) c = false) c hc hlo hhi
    rw [hb]
    have g48 : decide ((48 : Int) ≤ (c : Int)) = false := decide_eq_false (by omega)
    have g65 : decide ((65 : Int) ≤ (c : Int)) = false := decide_eq_false (by omega)
    have g97 : decide ((97 : Int) ≤ (c : Int)) = false := decide_eq_false (by omega)
    have l57 : decide ((c : Int) ≤ 57) = true := decide_eq_true (by omega)
    have l90 : decide ((c : Int) ≤ 90) = true := decide_eq_true (by omega)
    have l122 : decide ((c : Int) ≤ 122) = true := decide_eq_true (by omega)
    have e9 : ((c : Int) == 9) = false := by rw [beq_eq_false_iff_ne]; omega
    have e32 : ((c : Int) == 32) = false := by rw [beq_eq_false_iff_ne]; omega
    clear hb hlo hhi hc
    go_enter Tryd.func28, Tryd.ntmps28
    go_wp2
    refine bodyPost_ret (v := .tuple #[.bool false, .bool true]) (by simp [results, Tryd.results28, go_sem, *]) rfl ⟨rfl, ?_⟩
    rfl
  · have hb : ((fun x => (nonP) x || (rgsF nonP [9, 9, 32, 32]) x)) c = false := (by decide +kernel : ∀ c, c < 256 → 48 ≤ c → c ≤ 57 → ((fun x => (nonP) x || (rgsF nonP [9, 9, 32, 32]) x)) c = false) c hc hlo hhi
    rw [hb]
    have g48 : decide ((48 : Int) ≤ (c : Int)) = true := decide_eq_true (by omega)
    have g65 : decide ((65 : Int) ≤ (c : Int)) = false := decide_eq_false (by omega)
    have g97 : decide ((97 : Int) ≤ (c : Int)) = false := decide_eq_false (by omega)
    have l57 : decide ((c : Int) ≤ 57) = true := decide_eq_true (by omega)
    have l90 : decide ((c : Int) ≤ 90) = true := decide_eq_true (by omega)
    have l122 : decide ((c : Int) ≤ 122) = true := decide_eq_true (by omega)
    have e9 : ((c : Int) == 9) = false := by rw [beq_eq_false_iff_ne]; omega
    have e32 : ((c : Int) == 32) = false := by rw [beq_eq_false_iff_ne]; omega
    clear hb hlo hhi hc
    go_enter Tryd.func28, Tryd.ntmps28
    go_wp2
    refine bodyPost_ret (v := .tuple #[.bool false, .bool true]) (by simp [results, Tryd.results28, go_sem, *]) rfl ⟨rfl, ?_⟩
    rfl
  · have hb : ((fun x => (nonP) x || (rgsF nonP [9, 9, 32, 32]) x)) c = false := (by decide +kernel : ∀ c, c < 256 → 58 ≤ c → c ≤ 64 → ((fun x => (nonP) x || (rgsF nonP [9, 9, 32, 32]) x)) c = false) c hc hlo hhi
    rw [hb]
    have g48 : decide ((48 : Int) ≤ (c : Int)) = true := decide_eq_true (by omega)
    have g65 : decide ((65 : Int) ≤ (c : Int)) = false := decide_eq_false (by omega)
    have g97 : decide ((97 : Int) ≤ (c : Int)) = false := decide_eq_false (by omega)
    have l57 : decide ((c : Int) ≤ 57) = false := decide_eq_false (by omega)
    have l90 : decide ((c : Int) ≤ 90) = true := decide_eq_true (by omega)
    have l122 : decide ((c : Int) ≤ 122) = true := decide_eq_true (by omega)
    have e9 : ((c : Int) == 9) = false := by rw [beq_eq_false_iff_ne]; omega
    have e32 : ((c : Int) == 32) = false := by rw [beq_eq_false_iff_ne]; omega
    clear hb hlo hhi hc
    go_enter Tryd.func28, Tryd.ntmps28
    go_wp2
    refine bodyPost_ret (v := .tuple #[.bool false, .bool true]) (by simp [results, Tryd.results28, go_sem, *]) rfl ⟨rfl, ?_⟩
    rfl
  · have hb : ((fun x => (nonP) x || (rgsF nonP [9, 9, 32, 32]) x)) c = false := (by decide +kernel : ∀ c, c < 256 → 65 ≤ c → c ≤ 90 → ((fun x => (nonP) x || (rgsF nonP [9, 9, 32, 32]) x)) c = false) c hc hlo hhi
    rw [hb]
    have g48 : decide ((48 : Int) ≤ (c : Int)) = true := decide_eq_true (by omega)
    have g65 : decide ((65 : Int) ≤ (c : Int)) = true := decide_eq_true (by omega)
    have g97 : decide ((97 : Int) ≤ (c : Int)) = false := decide_eq_false (by omega)
    have l57 : decide ((c : Int) ≤ 57) = false := decide_eq_false (by omega)
    have l90 : decide ((c : Int) ≤ 90) = true := decide_eq_true (by omega)
    have l122 : decide ((c : Int) ≤ 122) = true := decide_eq_true (by omega)
    have e9 : ((c : Int) == 9) = false := by rw [beq_eq_false_iff_ne]; omega
    have e32 : ((c : Int) == 32) = false := by rw [beq_eq_false_iff_ne]; omega
    clear hb hlo hhi hc
    go_enter Tryd.func28, Tryd.ntmps28
    go_wp2
    refine bodyPost_ret (v := .tuple #[.bool false, .bool true]) (by simp [results, Tryd.results28, go_sem, *]) rfl ⟨rfl, ?_⟩
    rfl
  · have hb : ((fun x => (nonP) x || (rgsF nonP [9, 9, 32, 32]) x)) c = false := (by decide +kernel : ∀ c, c < 256 → 91 ≤ c → c ≤ 96 → ((fun x => (nonP) x || (rgsF nonP [9, 9, 32, 32]) x)) c = false) c hc hlo hhi
    rw [hb]
    have g48 : decide ((48 : Int) ≤ (c : Int)) = true := decide_eq_true (by omega)
    have g65 : decide ((65 : Int) ≤ (c : Int)) = true := decide_eq_true (by omega)
    have g97 : decide ((97 : Int) ≤ (c : Int)) = false := decide_eq_false (by omega)
    have l57 : decide ((c : Int) ≤ 57) = false := decide_eq_false (by omega)
    have l90 : decide ((c : Int) ≤ 90) = false := decide_eq_false (by omega)
    have l122 : decide ((c : Int) ≤ 122) = true := decide_eq_true (by omega)
    have e9 : ((c : Int) == 9) = false := by rw [beq_eq_false_iff_ne]; omega
    have e32 : ((c : Int) == 32) = false := by rw [beq_eq_false_iff_ne]; omega
    clear hb hlo hhi hc
    go_enter Tryd.func28, Tryd.ntmps28
    go_wp2
    refine bodyPost_ret (v := .tuple #[.bool false, .bool true]) (by simp [results, Tryd.results28, go_sem, *]) rfl ⟨rfl, ?_⟩
    rfl
  · have hb : ((fun x => (nonP) x || (rgsF nonP [9, 9, 32, 32]) x)) c = false := (by decide +kernel : ∀ c, c < 256 → 97 ≤ c → c ≤ 122 → ((fun x => (nonP) x || (rgsF nonP [9, 9, 32, 32]) x)) c = false) c hc hlo hhi
    rw [hb]
    have g48 : decide ((48 : Int) ≤ (c : Int)) = true := decide_eq_true (by omega)
    have g65 : decide ((65 : Int) ≤ (c : Int)) = true := decide_eq_true (by omega)
    have g97 : decide ((97 : Int) ≤ (c : Int)) = true := decide_eq_true (by omega)
    have l57 : decide ((c : Int) ≤ 57) = false := decide_eq_false (by omega)
    have l90 : decide ((c : Int) ≤ 90) = false := decide_eq_false (by omega)
    have l122 : decide ((c : Int) ≤ 122) = true := decide_eq_true (by omega)
    have e9 : ((c : Int) == 9) = false := by rw [beq_eq_false_iff_ne]; omega
    have e32 : ((c : Int) == 32) = false := by rw [beq_eq_false_iff_ne]; omega
    clear hb hlo hhi hc
    go_enter Tryd.func28, Tryd.ntmps28
    go_wp2
    refine bodyPost_ret (v := .tuple #[.bool false, .bool true]) (by simp [results, Tryd.results28, go_sem, *]) rfl ⟨rfl, ?_⟩
    rfl
  · have hb : ((fun x => (nonP) x || (rgsF nonP [9, 9, 32, 32]) x)) c = false := (by decide +kernel : ∀ c, c < 256 → 123 ≤ c → c ≤ 255 → ((fun x => (nonP) x || (rgsF nonP [9, 9, 32, 32]) x)) c = false) c hc hlo hhi
    rw [hb]
    have g48 : decide ((48 : Int) ≤ (c : Int)) = true := decide_eq_true (by omega)
    have g65 : decide ((65 : Int) ≤ (c : Int)) = true := decide_eq_true (by omega)
    have g97 : decide ((97 : Int) ≤ (c : Int)) = true := decide_eq_true (by omega)
    have l57 : decide ((c : Int) ≤ 57) = false := decide_eq_false (by omega)
    have l90 : decide ((c : Int) ≤ 90) = false := decide_eq_false (by omega)
    have l122 : decide ((c : Int) ≤ 122) = false := decide_eq_false (by omega)
    have e9 : ((c : Int) == 9) = false := by rw [beq_eq_false_iff_ne]; omega
    have e32 : ((c : Int) == 32) = false := by rw [beq_eq_false_iff_ne]; omega
    clear hb hlo hhi hc
    go_enter Tryd.func28, Tryd.ntmps28
    go_wp2
    refine bodyPost_ret (v := .tuple #[.bool false, .bool true]) (by simp [results, Tryd.results28, go_sem, *]) rfl ⟨rfl, ?_⟩
    rfl
set_option maxRecDepth 100000 in
set_option maxHeartbeats 8000000 in
theorem in_punct (c : Nat) (hc : c < 256) (s : ByteArray) (hs : s.toList = [112, 117, 110, 99, 116]) (w : World) :
    Calls Tryd.prog 28 #[.string s, .int .i64 (c : Int)] w fun e w' => e = .returned (.tuple #[.bool ((rgsF nonP [33, 47, 58, 64, 91, 96, 123, 126]) c), .bool true]) ∧ w = w' := by
  have t0 : (s.toList == [97, 108, 112, 104, 97]) = false := by rw [hs]; rfl
  have t1 : (s.toList == [100, 105, 103, 105, 116]) = false := by rw [hs]; rfl
  have t2 : (s.toList == [97, 108, 110, 117, 109]) = false := by rw [hs]; rfl
  have t3 : (s.toList == [117, 112, 112, 101, 114]) = false := by rw [hs]; rfl
  have t4 : (s.toList == [108, 111, 119, 101, 114]) = false := by rw [hs]; rfl
  have t5 : (s.toList == [115, 112, 97, 99, 101]) = false := by rw [hs]; rfl
  have t6 : (s.toList == [98, 108, 97, 110, 107]) = false := by rw [hs]; rfl
  have t7 : (s.toList == [112, 117, 110, 99, 116]) = true := by rw [hs]; rfl
  clear hs
  rcases (by omega : (0 ≤ c ∧ c ≤ 32) ∨ (33 ≤ c ∧ c ≤ 47) ∨ (48 ≤ c ∧ c ≤ 57) ∨ (58 ≤ c ∧ c ≤ 64) ∨ (65 ≤ c ∧ c ≤ 90) ∨ (91 ≤ c ∧ c ≤ 96) ∨ (97 ≤ c ∧ c ≤ 122) ∨ (123 ≤ c ∧ c ≤ 126) ∨ (127 ≤ c ∧ c ≤ 255)) with ⟨hlo, hhi⟩ | ⟨hlo, hhi⟩ | ⟨hlo, hhi⟩ | ⟨hlo, hhi⟩ | ⟨hlo, hhi⟩ | ⟨hlo, hhi⟩ | ⟨hlo, hhi⟩ | ⟨hlo, hhi⟩ | ⟨hlo, hhi⟩
  · have hb : (rgsF nonP [33, 47, 58, 64, 91, 96, 123, 126]) c = false := (by decide +kernel : ∀ c, c < 256 → 0 ≤ c → c ≤ 32 → (rgsF nonP [33, 47, 58, 64, 91, 96, 123, 126]) c = false) c hc hlo hhi
    rw [hb]
    have g33 : decide ((33 : Int) ≤ (c : Int)) = false := decide_eq_false (by omega)
    have g48 : decide ((48 : Int) ≤ (c : Int)) = false := decide_eq_false (by omega)
    have g65 : decide ((65 : Int) ≤ (c : Int)) = false := decide_eq_false (by omega)
    have g97 : decide ((97 : Int) ≤ (c : Int)) = false := decide_eq_false (by omega)
    have l57 : decide ((c : Int) ≤ 57) = true := decide_eq_true (by omega)
    have l90 : decide ((c : Int) ≤ 90) = true := decide_eq_true (by omega)
    have l122 : decide ((c : Int) ≤ 122) = true := decide_eq_true (by omega)
    have l126 : decide ((c : Int) ≤ 126) = true := decide_eq_true (by omega)
    clear hb hlo hhi hc
    go_enter Tryd.func28, Tryd.ntmps28
    go_wp2
    refine bodyPost_ret (v := .tuple #[.bool false, .bool true]) (by simp [results, Tryd.results28, go_sem, *]) rfl ⟨rfl, ?_⟩
    rfl
  · have hb : (rgsF nonP [33, 47, 58, 64, 91, 96, 123, 126]) c = true := (by decide +kernel : ∀ c, c < 256 → 33 ≤ c → c ≤ 47 → (rgsF nonP [33, 47, 58, 64, 91, 96, 123, 126]) c = true) c hc hlo hhi
    rw [hb]
    have g33 : decide ((33 : Int) ≤ (c : Int)) = true := decide_eq_true (by omega)
    have g48 : decide ((48 : Int) ≤ (c : Int)) = false := decide_eq_false (by omega)
    have g65 : decide ((65 : Int) ≤ (c : Int)) = false := decide_eq_false (by omega)
    have g97 : decide ((97 : Int) ≤ (c : Int)) = false := decide_eq_false (by omega)
    have l57 : decide ((c : Int) ≤ 57) = true := decide_eq_true (by omega)
    have l90 : decide ((c : Int) ≤ 90) = true := decide_eq_true (by omega)
    have l122 : decide ((c : Int) ≤ 122) = true := decide_eq_true (by omega)
    have l126 : decide ((c : Int) ≤ 126) = true := decide_eq_true (by omega)
    clear hb hlo hhi hc
    go_enter Tryd.func28, Tryd.ntmps28
    go_wp2
    refine bodyPost_ret (v := .tuple #[.bool true, .bool true]) (by simp [results, Tryd.results28, go_sem, *]) rfl ⟨rfl, ?_⟩
    rfl
  · have hb : (rgsF nonP [33, 47, 58, 64, 91, 96, 123, 126]) c = false := (by decide +kernel : ∀ c, c < 256 → 48 ≤ c → c ≤ 57 → (rgsF nonP [33, 47, 58, 64, 91, 96, 123, 126]) c = false) c hc hlo hhi
    rw [hb]
    have g33 : decide ((33 : Int) ≤ (c : Int)) = true := decide_eq_true (by omega)
    have g48 : decide ((48 : Int) ≤ (c : Int)) = true := decide_eq_true (by omega)
    have g65 : decide ((65 : Int) ≤ (c : Int)) = false := decide_eq_false (by omega)
    have g97 : decide ((97 : Int) ≤ (c : Int)) = false := decide_eq_false (by omega)
    have l57 : decide ((c : Int) ≤ 57) = true := decide_eq_true (by omega)
    have l90 : decide ((c : Int) ≤ 90) = true := decide_eq_true (by omega)
    have l122 : decide ((c : Int) ≤ 122) = true := decide_eq_true (by omega)
    have l126 : decide ((c : Int) ≤ 126) = true := decide_eq_true (by omega)
    clear hb hlo hhi hc
    go_enter Tryd.func28, Tryd.ntmps28
    go_wp2
    refine bodyPost_ret (v := .tuple #[.bool false, .bool true]) (by simp [results, Tryd.results28, go_sem, *]) rfl ⟨rfl, ?_⟩
    rfl
  · have hb : (rgsF nonP [33, 47, 58, 64, 91, 96, 123, 126]) c = true := (by decide +kernel : ∀ c, c < 256 → 58 ≤ c → c ≤ 64 → (rgsF nonP [33, 47, 58, 64, 91, 96, 123, 126]) c = true) c hc hlo hhi
    rw [hb]
    have g33 : decide ((33 : Int) ≤ (c : Int)) = true := decide_eq_true (by omega)
    have g48 : decide ((48 : Int) ≤ (c : Int)) = true := decide_eq_true (by omega)
    have g65 : decide ((65 : Int) ≤ (c : Int)) = false := decide_eq_false (by omega)
    have g97 : decide ((97 : Int) ≤ (c : Int)) = false := decide_eq_false (by omega)
    have l57 : decide ((c : Int) ≤ 57) = false := decide_eq_false (by omega)
    have l90 : decide ((c : Int) ≤ 90) = true := decide_eq_true (by omega)
    have l122 : decide ((c : Int) ≤ 122) = true := decide_eq_true (by omega)
    have l126 : decide ((c : Int) ≤ 126) = true := decide_eq_true (by omega)
    clear hb hlo hhi hc
    go_enter Tryd.func28, Tryd.ntmps28
    go_wp2
    refine bodyPost_ret (v := .tuple #[.bool true, .bool true]) (by simp [results, Tryd.results28, go_sem, *]) rfl ⟨rfl, ?_⟩
    rfl
  · have hb : (rgsF nonP [33, 47, 58, 64, 91, 96, 123, 126]) c = false := (by decide +kernel : ∀ c, c < 256 → 65 ≤ c → c ≤ 90 → (rgsF nonP [33, 47, 58, 64, 91, 96, 123, 126]) c = false) c hc hlo hhi
    rw [hb]
    have g33 : decide ((33 : Int) ≤ (c : Int)) = true := decide_eq_true (by omega)
    have g48 : decide ((48 : Int) ≤ (c : Int)) = true := decide_eq_true (by omega)
    have g65 : decide ((65 : Int) ≤ (c : Int)) = true := decide_eq_true (by omega)
    have g97 : decide ((97 : Int) ≤ (c : Int)) = false := decide_eq_false (by omega)
    have l57 : decide ((c : Int) ≤ 57) = false := decide_eq_false (by omega)
    have l90 : decide ((c : Int) ≤ 90) = true := decide_eq_true (by omega)
    have l122 : decide ((c : Int) ≤ 122) = true := decide_eq_true (by omega)
    have l126 : decide ((c : Int) ≤ 126) = true := decide_eq_true (by omega)
    clear hb hlo hhi hc
    go_enter Tryd.func28, Tryd.ntmps28
    go_wp2
    refine bodyPost_ret (v := .tuple #[.bool false, .bool true]) (by simp [results, Tryd.results28, go_sem, *]) rfl ⟨rfl, ?_⟩
    rfl
  · have hb : (rgsF nonP [33, 47, 58, 64, 91, 96, 123, 126]) c = true := (by decide +kernel : ∀ c, c < 256 → 91 ≤ c → c ≤ 96 → (rgsF nonP [33, 47, 58, 64, 91, 96, 123, 126]) c = true) c hc hlo hhi
    rw [hb]
    have g33 : decide ((33 : Int) ≤ (c : Int)) = true := decide_eq_true (by omega)
    have g48 : decide ((48 : Int) ≤ (c : Int)) = true := decide_eq_true (by omega)
    have g65 : decide ((65 : Int) ≤ (c : Int)) = true := decide_eq_true (by omega)
    have g97 : decide ((97 : Int) ≤ (c : Int)) = false := decide_eq_false (by omega)
    have l57 : decide ((c : Int) ≤ 57) = false := decide_eq_false (by omega)
    have l90 : decide ((c : Int) ≤ 90) = false := decide_eq_false (by omega)
    have l122 : decide ((c : Int) ≤ 122) = true := decide_eq_true (by omega)
    have l126 : decide ((c : Int) ≤ 126) = true := decide_eq_true (by omega)
    clear hb hlo hhi hc
    go_enter Tryd.func28, Tryd.ntmps28
    go_wp2
    refine bodyPost_ret (v := .tuple #[.bool true, .bool true]) (by simp [results, Tryd.results28, go_sem, *]) rfl ⟨rfl, ?_⟩
    rfl
  · have hb : (rgsF nonP [33, 47, 58, 64, 91, 96, 123, 126]) c = false := (by decide +kernel : ∀ c, c < 256 → 97 ≤ c → c ≤ 122 → (rgsF nonP [33, 47, 58, 64, 91, 96, 123, 126]) c = false) c hc hlo hhi
    rw [hb]
    have g33 : decide ((33 : Int) ≤ (c : Int)) = true := decide_eq_true (by omega)
    have g48 : decide ((48 : Int) ≤ (c : Int)) = true := decide_eq_true (by omega)
    have g65 : decide ((65 : Int) ≤ (c : Int)) = true := decide_eq_true (by omega)
    have g97 : decide ((97 : Int) ≤ (c : Int)) = true := decide_eq_true (by omega)
    have l57 : decide ((c : Int) ≤ 57) = false := decide_eq_false (by omega)
    have l90 : decide ((c : Int) ≤ 90) = false := decide_eq_false (by omega)
    have l122 : decide ((c : Int) ≤ 122) = true := decide_eq_true (by omega)
    have l126 : decide ((c : Int) ≤ 126) = true := decide_eq_true (by omega)
    clear hb hlo hhi hc
    go_enter Tryd.func28, Tryd.ntmps28
    go_wp2
    refine bodyPost_ret (v := .tuple #[.bool false, .bool true]) (by simp [results, Tryd.results28, go_sem, *]) rfl ⟨rfl, ?_⟩
    rfl
  · have hb : (rgsF nonP [33, 47, 58, 64, 91, 96, 123, 126]) c = true := (by decide +kernel : ∀ c, c < 256 → 123 ≤ c → c ≤ 126 → (rgsF nonP [33, 47, 58, 64, 91, 96, 123, 126]) c = true) c hc hlo hhi
    rw [hb]
    have g33 : decide ((33 : Int) ≤ (c : Int)) = true := decide_eq_true (by omega)
    have g48 : decide ((48 : Int) ≤ (c : Int)) = true := decide_eq_true (by omega)
    have g65 : decide ((65 : Int) ≤ (c : Int)) = true := decide_eq_true (by omega)
    have g97 : decide ((97 : Int) ≤ (c : Int)) = true := decide_eq_true (by omega)
    have l57 : decide ((c : Int) ≤ 57) = false := decide_eq_false (by omega)
    have l90 : decide ((c : Int) ≤ 90) = false := decide_eq_false (by omega)
    have l122 : decide ((c : Int) ≤ 122) = false := decide_eq_false (by omega)
    have l126 : decide ((c : Int) ≤ 126) = true := decide_eq_true (by omega)
    clear hb hlo hhi hc
    go_enter Tryd.func28, Tryd.ntmps28
    go_wp2
    refine bodyPost_ret (v := .tuple #[.bool true, .bool true]) (by simp [results, Tryd.results28, go_sem, *]) rfl ⟨rfl, ?_⟩
    rfl
  · have hb : (rgsF nonP [33, 47, 58, 64, 91, 96, 123, 126]) c = false := (by decide +kernel : ∀ c, c < 256 → 127 ≤ c → c ≤ 255 → (rgsF nonP [33, 47, 58, 64, 91, 96, 123, 126]) c = false) c hc hlo hhi
    rw [hb]
    have g33 : decide ((33 : Int) ≤ (c : Int)) = true := decide_eq_true (by omega)
    have g48 : decide ((48 : Int) ≤ (c : Int)) = true := decide_eq_true (by omega)
    have g65 : decide ((65 : Int) ≤ (c : Int)) = true := decide_eq_true (by omega)
    have g97 : decide ((97 : Int) ≤ (c : Int)) = true := decide_eq_true (by omega)
    have l57 : decide ((c : Int) ≤ 57) = false := decide_eq_false (by omega)
    have l90 : decide ((c : Int) ≤ 90) = false := decide_eq_false (by omega)
    have l122 : decide ((c : Int) ≤ 122) = false := decide_eq_false (by omega)
    have l126 : decide ((c : Int) ≤ 126) = false := decide_eq_false (by omega)
    clear hb hlo hhi hc
    go_enter Tryd.func28, Tryd.ntmps28
    go_wp2
    refine bodyPost_ret (v := .tuple #[.bool false, .bool true]) (by simp [results, Tryd.results28, go_sem, *]) rfl ⟨rfl, ?_⟩
    rfl
set_option maxRecDepth 100000 in
set_option maxHeartbeats 8000000 in
theorem in_print (c : Nat) (hc : c < 256) (s : ByteArray) (hs : s.toList = [112, 114, 105, 110, 116]) (w : World) :
    Calls Tryd.prog 28 #[.string s, .int .i64 (c : Int)] w fun e w' => e = .returned (.tuple #[.bool (((fun x => (rngP 32 32) x || (rngP 33 126) x)) c), .bool true]) ∧ w = w' := by
  have t0 : (s.toList == [97, 108, 112, 104, 97]) = false := by rw [hs]; rfl
  have t1 : (s.toList == [100, 105, 103, 105, 116]) = false := by rw [hs]; rfl
  have t2 : (s.toList == [97, 108, 110, 117, 109]) = false := by rw [hs]; rfl
  have t3 : (s.toList == [117, 112, 112, 101, 114]) = false := by rw [hs]; rfl
  have t4 : (s.toList == [108, 111, 119, 101, 114]) = false := by rw [hs]; rfl
  have t5 : (s.toList == [115, 112, 97, 99, 101]) = false := by rw [hs]; rfl
  have t6 : (s.toList == [98, 108, 97, 110, 107]) = false := by rw [hs]; rfl
  have t7 : (s.toList == [112, 117, 110, 99, 116]) = false := by rw [hs]; rfl
  have t8 : (s.toList == [112, 114, 105, 110, 116]) = true := by rw [hs]; rfl
  clear hs
  rcases (by omega : (0 ≤ c ∧ c ≤ 31) ∨ (32 ≤ c ∧ c ≤ 47) ∨ (48 ≤ c ∧ c ≤ 57) ∨ (58 ≤ c ∧ c ≤ 64) ∨ (65 ≤ c ∧ c ≤ 90) ∨ (91 ≤ c ∧ c ≤ 96) ∨ (97 ≤ c ∧ c ≤ 122) ∨ (123 ≤ c ∧ c ≤ 126) ∨ (127 ≤ c ∧ c ≤ 255)) with ⟨hlo, hhi⟩ | ⟨hlo, hhi⟩ | ⟨hlo, hhi⟩ | ⟨hlo, hhi⟩ | ⟨hlo, hhi⟩ | ⟨hlo, hhi⟩ | ⟨hlo, hhi⟩ | ⟨hlo, hhi⟩ | ⟨hlo, hhi⟩
  · have hb : ((fun x => (rngP 32 32) x || (rngP 33 126) x)) c = false := (by decide +kernel : ∀ c, c < 256 → 0 ≤ c → c ≤ 31 → ((fun x => (rngP 32 32) x || (rngP 33 126) x)) c = false) c hc hlo hhi
    rw [hb]
    have g32 : decide ((32 : Int) ≤ (c : Int)) = false := decide_eq_false (by omega)
    have g48 : decide ((48 : Int) ≤ (c : Int)) = false := decide_eq_false (by omega)
    have g65 : decide ((65 : Int) ≤ (c : Int)) = false := decide_eq_false (by omega)
    have g97 : decide ((97 : Int) ≤ (c : Int)) = false := decide_eq_false (by omega)
    have l57 : decide ((c : Int) ≤ 57) = true := decide_eq_true (by omega)
    have l90 : decide ((c : Int) ≤ 90) = true := decide_eq_true (by omega)
    have l122 : decide ((c : Int) ≤ 122) = true := decide_eq_true (by omega)
    have l126 : decide ((c : Int) ≤ 126) = true := decide_eq_true (by omega)
    clear hb hlo hhi hc
    go_enter Tryd.func28, Tryd.ntmps28
    go_wp2
    refine bodyPost_ret (v := .tuple #[.bool false, .bool true]) (by simp [results, Tryd.results28, go_sem, *]) rfl ⟨rfl, ?_⟩
    rfl
  · have hb : ((fun x => (rngP 32 32) x || (rngP 33 126) x)) c = true := (by decide +kernel : ∀ c, c < 256 → 32 ≤ c → c ≤ 47 → ((fun x => (rngP 32 32) x || (rngP 33 126) x)) c = true) c hc hlo hhi
    rw [hb]
    have g32 : decide ((32 : Int) ≤ (c : Int)) = true := decide_eq_true (by omega)
    have g48 : decide ((48 : Int) ≤ (c : Int)) = false := decide_eq_false (by omega)
    have g65 : decide ((65 : Int) ≤ (c : Int)) = false := decide_eq_false (by omega)
    have g97 : decide ((97 : Int) ≤ (c : Int)) = false := decide_eq_false (by omega)
    have l57 : decide ((c : Int) ≤ 57) = true := decide_eq_true (by omega)
    have l90 : decide ((c : Int) ≤ 90) = true := decide_eq_true (by omega)
    have l122 : decide ((c : Int) ≤ 122) = true := decide_eq_true (by omega)
    have l126 : decide ((c : Int) ≤ 126) = true := decide_eq_true (by omega)
    clear hb hlo hhi hc
    go_enter Tryd.func28, Tryd.ntmps28
    go_wp2
    refine bodyPost_ret (v := .tuple #[.bool true, .bool true]) (by simp [results, Tryd.results28, go_sem, *]) rfl ⟨rfl, ?_⟩
    rfl
  · have hb : ((fun x => (rngP 32 32) x || (rngP 33 126) x)) c = true := (by decide +kernel : ∀ c, c < 256 → 48 ≤ c → c ≤ 57 → ((fun x => (rngP 32 32) x || (rngP 33 126) x)) c = true) c hc hlo hhi
    rw [hb]
    have g32 : decide ((32 : Int) ≤ (c : Int)) = true := decide_eq_true (by omega)
    have g48 : decide ((48 : Int) ≤ (c : Int)) = true := decide_eq_true (by omega)
    have g65 : decide ((65 : Int) ≤ (c : Int)) = false := decide_eq_false (by omega)
    have g97 : decide ((97 : Int) ≤ (c : Int)) = false := decide_eq_false (by omega)
    have l57 : decide ((c : Int) ≤ 57) = true := decide_eq_true (by omega)
    have l90 : decide ((c : Int) ≤ 90) = true := decide_eq_true (by omega)
    have l122 : decide ((c : Int) ≤ 122) = true := decide_eq_true (by omega)
    have l126 : decide ((c : Int) ≤ 126) = true := decide_eq_true (by omega)
    clear hb hlo hhi hc
    go_enter Tryd.func28, Tryd.ntmps28
    go_wp2
    refine bodyPost_ret (v := .tuple #[.bool true, .bool true]) (by simp [results, Tryd.results28, go_sem, *]) rfl ⟨rfl, ?_⟩
    rfl
  · have hb : ((fun x => (rngP 32 32) x || (rngP 33 126) x)) c = true := (by decide +kernel : ∀ c, c < 256 → 58 ≤ c → c ≤ 64 → ((fun x => (rngP 32 32) x || (rngP 33 126) x)) c = true) c hc hlo hhi
    rw [hb]
    have g32 : decide ((32 : Int) ≤ (c : Int)) = true := decide_eq_true (by omega)
    have g48 : decide ((48 : Int) ≤ (c : Int)) = true := decide_eq_true (by omega)
    have g65 : decide ((65 : Int) ≤ (c : Int)) = false := decide_eq_false (by omega)
    have g97 : decide ((97 : Int) ≤ (c : Int)) = false := decide_eq_false (by omega)
    have l57 : decide ((c : Int) ≤ 57) = false := decide_eq_false (by omega)
    have l90 : decide ((c : Int) ≤ 90) = true := decide_eq_true (by omega)
    have l122 : decide ((c : Int) ≤ 122) = true := decide_eq_true (by omega)
    have l126 : decide ((c : Int) ≤ 126) = true := decide_eq_true (by omega)
    clear hb hlo hhi hc
    go_enter Tryd.func28, Tryd.ntmps28
    go_wp2
    refine bodyPost_ret (v := .tuple #[.bool true, .bool true]) (by simp [results, Tryd.results28, go_sem, *]) rfl ⟨rfl, ?_⟩
    rfl
  · have hb : ((fun x => (rngP 32 32) x || (rngP 33 126) x)) c = true := (by decide +kernel : ∀ c, c < 256 → 65 ≤ c → c ≤ 90 → ((fun x => (rngP 32 32) x || (rngP 33 126) x)) c = true) c hc hlo hhi
    rw [hb]
    have g32 : decide ((32 : Int) ≤ (c : Int)) = true := decide_eq_true (by omega)
    have g48 : decide ((48 : Int) ≤ (c : Int)) = true := decide_eq_true (by omega)
    have g65 : decide ((65 : Int) ≤ (c : Int)) = true := decide_eq_true (by omega)
    have g97 : decide ((97 : Int) ≤ (c : Int)) = false := decide_eq_false (by omega)
    have l57 : decide ((c : Int) ≤ 57) = false := decide_eq_false (by omega)
    have l90 : decide ((c : Int) ≤ 90) = true := decide_eq_true (by omega)
    have l122 : decide ((c : Int) ≤ 122) = true := decide_eq_true (by omega)
    have l126 : decide ((c : Int) ≤ 126) = true := decide_eq_true (by omega)
    clear hb hlo hhi hc
    go_enter Tryd.func28, Tryd.ntmps28
    go_wp2
    refine bodyPost_ret (v := .tuple #[.bool true, .bool true]) (by simp [results, Tryd.results28, go_sem, *]) rfl ⟨rfl, ?_⟩
    rfl
  · have hb : ((fun x => (rngP 32 32) x || (rngP 33 126) x)) c = true := (by decide +kernel : ∀ c, c < 256 → 91 ≤ c → c ≤ 96 → ((fun x => (rngP 32 32) x || (rngP 33 126) x)) c = true) c hc hlo hhi
    rw [hb]
    have g32 : decide ((32 : Int) ≤ (c : Int)) = true := decide_eq_true (by omega)
    have g48 : decide ((48 : Int) ≤ (c : Int)) = true := decide_eq_true (by omega)
    have g65 : decide ((65 : Int) ≤ (c : Int)) = true := decide_eq_true (by omega)
    have g97 : decide ((97 : Int) ≤ (c : Int)) = false := decide_eq_false (by omega)
    have l57 : decide ((c : Int) ≤ 57) = false := decide_eq_false (by omega)
    have l90 : decide ((c : Int) ≤ 90) = false := decide_eq_false (by omega)
    have l122 : decide ((c : Int) ≤ 122) = true := decide_eq_true (by omega)
    have l126 : decide ((c : Int) ≤ 126) = true := decide_eq_true (by omega)
    clear hb hlo hhi hc
    go_enter Tryd.func28, Tryd.ntmps28
    go_wp2
    refine bodyPost_ret (v := .tuple #[.bool true, .bool true]) (by simp [results, Tryd.results28, go_sem, *]) rfl ⟨rfl, ?_⟩
    rfl
  · have hb : ((fun x => (rngP 32 32) x || (rngP 33 126) x)) c = true := (by decide +kernel : ∀ c, c < 256 → 97 ≤ c → c ≤ 122 → ((fun x => (rngP 32 32) x || (rngP 33 126) x)) c = true) c hc hlo hhi
    rw [hb]
    have g32 : decide ((32 : Int) ≤ (c : Int)) = true := decide_eq_true (by omega)
    have g48 : decide ((48 : Int) ≤ (c : Int)) = true := decide_eq_true (by omega)
    have g65 : decide ((65 : Int) ≤ (c : Int)) = true := decide_eq_true (by omega)
    have g97 : decide ((97 : Int) ≤ (c : Int)) = true := decide_eq_true (by omega)
    have l57 : decide ((c : Int) ≤ 57) = false := decide_eq_false (by omega)
    have l90 : decide ((c : Int) ≤ 90) = false := decide_eq_false (by omega)
    have l122 : decide ((c : Int) ≤ 122) = true := decide_eq_true (by omega)
    have l126 : decide ((c : Int) ≤ 126) = true := decide_eq_true (by omega)
    clear hb hlo hhi hc
    go_enter Tryd.func28, Tryd.ntmps28
    go_wp2
    refine bodyPost_ret (v := .tuple #[.bool true, .bool true]) (by simp [results, Tryd.results28, go_sem, *]) rfl ⟨rfl, ?_⟩
    rfl
  · have hb : ((fun x => (rngP 32 32) x || (rngP 33 126) x)) c = true := (by decide +kernel : ∀ c, c < 256 → 123 ≤ c → c ≤ 126 → ((fun x => (rngP 32 32) x || (rngP 33 126) x)) c = true) c hc hlo hhi
    rw [hb]
    have g32 : decide ((32 : Int) ≤ (c : Int)) = true := decide_eq_true (by omega)
    have g48 : decide ((48 : Int) ≤ (c : Int)) = true := decide_eq_true (by omega)
    have g65 : decide ((65 : Int) ≤ (c : Int)) = true := decide_eq_true (by omega)
    have g97 : decide ((97 : Int) ≤ (c : Int)) = true := decide_eq_true (by omega)
    have l57 : decide ((c : Int) ≤ 57) = false := decide_eq_false (by omega)
    have l90 : decide ((c : Int) ≤ 90) = false := decide_eq_false (by omega)
    have l122 : decide ((c : Int) ≤ 122) = false := decide_eq_false (by omega)
    have l126 : decide ((c : Int) ≤ 126) = true := decide_eq_true (by omega)
    clear hb hlo hhi hc
    go_enter Tryd.func28, Tryd.ntmps28
    go_wp2
    refine bodyPost_ret (v := .tuple #[.bool true, .bool true]) (by simp [results, Tryd.results28, go_sem, *]) rfl ⟨rfl, ?_⟩
    rfl
  · have hb : ((fun x => (rngP 32 32) x || (rngP 33 126) x)) c = false := (by decide +kernel : ∀ c, c < 256 → 127 ≤ c → c ≤ 255 → ((fun x => (rngP 32 32) x || (rngP 33 126) x)) c = false) c hc hlo hhi
    rw [hb]
    have g32 : decide ((32 : Int) ≤ (c : Int)) = true := decide_eq_true (by omega)
    have g48 : decide ((48 : Int) ≤ (c : Int)) = true := decide_eq_true (by omega)
    have g65 : decide ((65 : Int) ≤ (c : Int)) = true := decide_eq_true (by omega)
    have g97 : decide ((97 : Int) ≤ (c : Int)) = true := decide_eq_true (by omega)
    have l57 : decide ((c : Int) ≤ 57) = false := decide_eq_false (by omega)
    have l90 : decide ((c : Int) ≤ 90) = false := decide_eq_false (by omega)
    have l122 : decide ((c : Int) ≤ 122) = false := decide_eq_false (by omega)
    have l126 : decide ((c : Int) ≤ 126) = false := decide_eq_false (by omega)
    clear hb hlo hhi hc
    go_enter Tryd.func28, Tryd.ntmps28
    go_wp2
    refine bodyPost_ret (v := .tuple #[.bool false, .bool true]) (by simp [results, Tryd.results28, go_sem, *]) rfl ⟨rfl, ?_⟩
    rfl
end Go.Proofs.YtfmekmbdienbjaaDoor
