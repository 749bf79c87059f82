/- The document's own classes: In. -/
import Derived.Test.YtfmekmbdienbjaaDoorSetD
namespace Go.Proofs.YtfmekmbdienbjaaDoor
set_option linter.unusedSimpArgs false
set_option linter.unusedVariables false
set_option linter.unnecessarySimpa false
open Go.RowKit
set_option maxRecDepth 100000 in
set_option maxHeartbeats 8000000 in
theorem in_graph (c : Nat) (hc : c < 256) (s : ByteArray) (hs : s.toList = [103, 114, 97, 112, 104]) (w : World) :
    Calls Tryd.prog 28 #[.string s, .int .i64 (c : Int)] w fun e w' => e = .returned (.tuple #[.bool (((fun x => (nonP) x || (rngP 33 126) x)) c), .bool true]) ∧ w = w' := by
  have t0 : (s.toList == [97, 108, 112, 104, 97]) = false := by rw [hs]; rfl
  have t1 : (s.toList == [100, 105, 103, 105, 116]) = false := by rw [hs]; rfl
  have t2 : (s.toList == [97, 108, 110, 117, 109]) = false := by rw [hs]; rfl
  have t3 : (s.toList == [117, 112, 112, 101, 114]) = false := by rw [hs]; rfl
  have t4 : (s.toList == [108, 111, 119, 101, 114]) = false := by rw [hs]; rfl
  have t5 : (s.toList == [115, 112, 97, 99, 101]) = false := by rw [hs]; rfl
  have t6 : (s.toList == [98, 108, 97, 110, 107]) = false := by rw [hs]; rfl
  have t7 : (s.toList == [112, 117, 110, 99, 116]) = false := by rw [hs]; rfl
  have t8 : (s.toList == [112, 114, 105, 110, 116]) = false := by rw [hs]; rfl
  have t9 : (s.toList == [103, 114, 97, 112, 104]) = true := by rw [hs]; rfl
  clear hs
  rcases (by omega : (0 ≤ c ∧ c ≤ 32) ∨ (33 ≤ c ∧ c ≤ 47) ∨ (48 ≤ c ∧ c ≤ 57) ∨ (58 ≤ c ∧ c ≤ 64) ∨ (65 ≤ c ∧ c ≤ 90) ∨ (91 ≤ c ∧ c ≤ 96) ∨ (97 ≤ c ∧ c ≤ 122) ∨ (123 ≤ c ∧ c ≤ 126) ∨ (127 ≤ c ∧ c ≤ 255)) with ⟨hlo, hhi⟩ | ⟨hlo, hhi⟩ | ⟨hlo, hhi⟩ | ⟨hlo, hhi⟩ | ⟨hlo, hhi⟩ | ⟨hlo, hhi⟩ | ⟨hlo, hhi⟩ | ⟨hlo, hhi⟩ | ⟨hlo, hhi⟩
  · have hb : ((fun x => (nonP) x || (rngP 33 126) x)) c = false := (by decide +kernel : ∀ c, c < 256 → 0 ≤ c → c ≤ 32 → ((fun x => (nonP) x || (rngP 33 126) x)) c = false) c hc hlo hhi
    rw [hb]
    have g33 : decide ((33 : Int) ≤ (c : Int)) = false := decide_eq_false (by omega)
    have g48 : decide ((48 : Int) ≤ (c : Int)) = false := decide_eq_false (by omega)
    have g65 : decide ((65 : Int) ≤ (c : Int)) = false := decide_eq_false (by omega)
    have g97 : decide ((97 : Int) ≤ (c : Int)) = false := decide_eq_false (by omega)
    have l57 : decide ((c : Int) ≤ 57) = true := decide_eq_true (by omega)
    have l90 : decide ((c : Int) ≤ 90) = true := decide_eq_true (by omega)
    have l122 : decide ((c : Int) ≤ 122) = true := decide_eq_true (by omega)
    have l126 : decide ((c : Int) ≤ 126) = true := decide_eq_true (by omega)
    clear hb hlo hhi hc
    go_enter Tryd.func28, Tryd.ntmps28
    go_wp2
    refine bodyPost_ret (v := .tuple #[.bool false, .bool true]) (by simp [results, Tryd.results28, go_sem, *]) rfl ⟨rfl, ?_⟩
    rfl
  · have hb : ((fun x => (nonP) x || (rngP 33 126) x)) c = true := (by decide +kernel : ∀ c, c < 256 → 33 ≤ c → c ≤ 47 → ((fun x => (nonP) x || (rngP 33 126) x)) c = true) c hc hlo hhi
    rw [hb]
    have g33 : decide ((33 : Int) ≤ (c : Int)) = true := decide_eq_true (by omega)
    have g48 : decide ((48 : Int) ≤ (c : Int)) = false := decide_eq_false (by omega)
    have g65 : decide ((65 : Int) ≤ (c : Int)) = false := decide_eq_false (by omega)
    have g97 : decide ((97 : Int) ≤ (c : Int)) = false := decide_eq_false (by omega)
    have l57 : decide ((c : Int) ≤ 57) = true := decide_eq_true (by omega)
    have l90 : decide ((c : Int) ≤ 90) = true := decide_eq_true (by omega)
    have l122 : decide ((c : Int) ≤ 122) = true := decide_eq_true (by omega)
    have l126 : decide ((c : Int) ≤ 126) = true := decide_eq_true (by omega)
    clear hb hlo hhi hc
    go_enter Tryd.func28, Tryd.ntmps28
    go_wp2
    refine bodyPost_ret (v := .tuple #[.bool true, .bool true]) (by simp [results, Tryd.results28, go_sem, *]) rfl ⟨rfl, ?_⟩
    rfl
  · have hb : ((fun x => (nonP) x || (rngP 33 126) x)) c = true := (by decide +kernel : ∀ c, c < 256 → 48 ≤ c → c ≤ 57 → ((fun x => (nonP) x || (rngP 33 126) x)) c = true) c hc hlo hhi
    rw [hb]
    have g33 : decide ((33 : Int) ≤ (c : Int)) = true := decide_eq_true (by omega)
    have g48 : decide ((48 : Int) ≤ (c : Int)) = true := decide_eq_true (by omega)
    have g65 : decide ((65 : Int) ≤ (c : Int)) = false := decide_eq_false (by omega)
    have g97 : decide ((97 : Int) ≤ (c : Int)) = false := decide_eq_false (by omega)
    have l57 : decide ((c : Int) ≤ 57) = true := decide_eq_true (by omega)
    have l90 : decide ((c : Int) ≤ 90) = true := decide_eq_true (by omega)
    have l122 : decide ((c : Int) ≤ 122) = true := decide_eq_true (by omega)
    have l126 : decide ((c : Int) ≤ 126) = true := decide_eq_true (by omega)
    clear hb hlo hhi hc
    go_enter Tryd.func28, Tryd.ntmps28
    go_wp2
    refine bodyPost_ret (v := .tuple #[.bool true, .bool true]) (by simp [results, Tryd.results28, go_sem, *]) rfl ⟨rfl, ?_⟩
    rfl
  · have hb : ((fun x => (nonP) x || (rngP 33 126) x)) c = true := (by decide +kernel : ∀ c, c < 256 → 58 ≤ c → c ≤ 64 → ((fun x => (nonP) x || (rngP 33 126) x)) c = true) c hc hlo hhi
    rw [hb]
    have g33 : decide ((33 : Int) ≤ (c : Int)) = true := decide_eq_true (by omega)
    have g48 : decide ((48 : Int) ≤ (c : Int)) = true := decide_eq_true (by omega)
    have g65 : decide ((65 : Int) ≤ (c : Int)) = false := decide_eq_false (by omega)
    have g97 : decide ((97 : Int) ≤ (c : Int)) = false := decide_eq_false (by omega)
    have l57 : decide ((c : Int) ≤ 57) = false := decide_eq_false (by omega)
    have l90 : decide ((c : Int) ≤ 90) = true := decide_eq_true (by omega)
    have l122 : decide ((c : Int) ≤ 122) = true := decide_eq_true (by omega)
    have l126 : decide ((c : Int) ≤ 126) = true := decide_eq_true (by omega)
    clear hb hlo hhi hc
    go_enter Tryd.func28, Tryd.ntmps28
    go_wp2
    refine bodyPost_ret (v := .tuple #[.bool true, .bool true]) (by simp [results, Tryd.results28, go_sem, *]) rfl ⟨rfl, ?_⟩
    rfl
  · have hb : ((fun x => (nonP) x || (rngP 33 126) x)) c = true := (by decide +kernel : ∀ c, c < 256 → 65 ≤ c → c ≤ 90 → ((fun x => (nonP) x || (rngP 33 126) x)) c = true) c hc hlo hhi
    rw [hb]
    have g33 : decide ((33 : Int) ≤ (c : Int)) = true := decide_eq_true (by omega)
    have g48 : decide ((48 : Int) ≤ (c : Int)) = true := decide_eq_true (by omega)
    have g65 : decide ((65 : Int) ≤ (c : Int)) = true := decide_eq_true (by omega)
    have g97 : decide ((97 : Int) ≤ (c : Int)) = false := decide_eq_false (by omega)
    have l57 : decide ((c : Int) ≤ 57) = false := decide_eq_false (by omega)
    have l90 : decide ((c : Int) ≤ 90) = true := decide_eq_true (by omega)
    have l122 : decide ((c : Int) ≤ 122) = true := decide_eq_true (by omega)
    have l126 : decide ((c : Int) ≤ 126) = true := decide_eq_true (by omega)
    clear hb hlo hhi hc
    go_enter Tryd.func28, Tryd.ntmps28
    go_wp2
    refine bodyPost_ret (v := .tuple #[.bool true, .bool true]) (by simp [results, Tryd.results28, go_sem, *]) rfl ⟨rfl, ?_⟩
    rfl
  · have hb : ((fun x => (nonP) x || (rngP 33 126) x)) c = true := (by decide +kernel : ∀ c, c < 256 → 91 ≤ c → c ≤ 96 → ((fun x => (nonP) x || (rngP 33 126) x)) c = true) c hc hlo hhi
    rw [hb]
    have g33 : decide ((33 : Int) ≤ (c : Int)) = true := decide_eq_true (by omega)
    have g48 : decide ((48 : Int) ≤ (c : Int)) = true := decide_eq_true (by omega)
    have g65 : decide ((65 : Int) ≤ (c : Int)) = true := decide_eq_true (by omega)
    have g97 : decide ((97 : Int) ≤ (c : Int)) = false := decide_eq_false (by omega)
    have l57 : decide ((c : Int) ≤ 57) = false := decide_eq_false (by omega)
    have l90 : decide ((c : Int) ≤ 90) = false := decide_eq_false (by omega)
    have l122 : decide ((c : Int) ≤ 122) = true := decide_eq_true (by omega)
    have l126 : decide ((c : Int) ≤ 126) = true := decide_eq_true (by omega)
    clear hb hlo hhi hc
    go_enter Tryd.func28, Tryd.ntmps28
    go_wp2
    refine bodyPost_ret (v := .tuple #[.bool true, .bool true]) (by simp [results, Tryd.results28, go_sem, *]) rfl ⟨rfl, ?_⟩
    rfl
  · have hb : ((fun x => (nonP) x || (rngP 33 126) x)) c = true := (by decide +kernel : ∀ c, c < 256 → 97 ≤ c → c ≤ 122 → ((fun x => (nonP) x || (rngP 33 126) x)) c = true) c hc hlo hhi
    rw [hb]
    have g33 : decide ((33 : Int) ≤ (c : Int)) = true := decide_eq_true (by omega)
    have g48 : decide ((48 : Int) ≤ (c : Int)) = true := decide_eq_true (by omega)
    have g65 : decide ((65 : Int) ≤ (c : Int)) = true := decide_eq_true (by omega)
    have g97 : decide ((97 : Int) ≤ (c : Int)) = true := decide_eq_true (by omega)
    have l57 : decide ((c : Int) ≤ 57) = false := decide_eq_false (by omega)
    have l90 : decide ((c : Int) ≤ 90) = false := decide_eq_false (by omega)
    have l122 : decide ((c : Int) ≤ 122) = true := decide_eq_true (by omega)
    have l126 : decide ((c : Int) ≤ 126) = true := decide_eq_true (by omega)
    clear hb hlo hhi hc
    go_enter Tryd.func28, Tryd.ntmps28
    go_wp2
    refine bodyPost_ret (v := .tuple #[.bool true, .bool true]) (by simp [results, Tryd.results28, go_sem, *]) rfl ⟨rfl, ?_⟩
    rfl
  · have hb : ((fun x => (nonP) x || (rngP 33 126) x)) c = true := (by decide +kernel : ∀ c, c < 256 → 123 ≤ c → c ≤ 126 → ((fun x => (nonP) x || (rngP 33 126) x)) c = true) c hc hlo hhi
    rw [hb]
    have g33 : decide ((33 : Int) ≤ (c : Int)) = true := decide_eq_true (by omega)
    have g48 : decide ((48 : Int) ≤ (c : Int)) = true := decide_eq_true (by omega)
    have g65 : decide ((65 : Int) ≤ (c : Int)) = true := decide_eq_true (by omega)
    have g97 : decide ((97 : Int) ≤ (c : Int)) = true := decide_eq_true (by omega)
    have l57 : decide ((c : Int) ≤ 57) = false := decide_eq_false (by omega)
    have l90 : decide ((c : Int) ≤ 90) = false := decide_eq_false (by omega)
    have l122 : decide ((c : Int) ≤ 122) = false := decide_eq_false (by omega)
    have l126 : decide ((c : Int) ≤ 126) = true := decide_eq_true (by omega)
    clear hb hlo hhi hc
    go_enter Tryd.func28, Tryd.ntmps28
    go_wp2
    refine bodyPost_ret (v := .tuple #[.bool true, .bool true]) (by simp [results, Tryd.results28, go_sem, *]) rfl ⟨rfl, ?_⟩
    rfl
  · have hb : ((fun x => (nonP) x || (rngP 33 126) x)) c = false := (by decide +kernel : ∀ c, c < 256 → 127 ≤ c → c ≤ 255 → ((fun x => (nonP) x || (rngP 33 126) x)) c = false) c hc hlo hhi
    rw [hb]
    have g33 : decide ((33 : Int) ≤ (c : Int)) = true := decide_eq_true (by omega)
    have g48 : decide ((48 : Int) ≤ (c : Int)) = true := decide_eq_true (by omega)
    have g65 : decide ((65 : Int) ≤ (c : Int)) = true := decide_eq_true (by omega)
    have g97 : decide ((97 : Int) ≤ (c : Int)) = true := decide_eq_true (by omega)
    have l57 : decide ((c : Int) ≤ 57) = false := decide_eq_false (by omega)
    have l90 : decide ((c : Int) ≤ 90) = false := decide_eq_false (by omega)
    have l122 : decide ((c : Int) ≤ 122) = false := decide_eq_false (by omega)
    have l126 : decide ((c : Int) ≤ 126) = false := decide_eq_false (by omega)
    clear hb hlo hhi hc
    go_enter Tryd.func28, Tryd.ntmps28
    go_wp2
    refine bodyPost_ret (v := .tuple #[.bool false, .bool true]) (by simp [results, Tryd.results28, go_sem, *]) rfl ⟨rfl, ?_⟩
    rfl
set_option maxRecDepth 100000 in
set_option maxHeartbeats 8000000 in
theorem in_cntrl (c : Nat) (hc : c < 256) (s : ByteArray) (hs : s.toList = [99, 110, 116, 114, 108]) (w : World) :
    Calls Tryd.prog 28 #[.string s, .int .i64 (c : Int)] w fun e w' => e = .returned (.tuple #[.bool ((rgsF nonP [0, 31, 127, 127]) c), .bool true]) ∧ w = w' := by
  have t0 : (s.toList == [97, 108, 112, 104, 97]) = false := by rw [hs]; rfl
  have t1 : (s.toList == [100, 105, 103, 105, 116]) = false := by rw [hs]; rfl
  have t2 : (s.toList == [97, 108, 110, 117, 109]) = false := by rw [hs]; rfl
  have t3 : (s.toList == [117, 112, 112, 101, 114]) = false := by rw [hs]; rfl
  have t4 : (s.toList == [108, 111, 119, 101, 114]) = false := by rw [hs]; rfl
  have t5 : (s.toList == [115, 112, 97, 99, 101]) = false := by rw [hs]; rfl
  have t6 : (s.toList == [98, 108, 97, 110, 107]) = false := by rw [hs]; rfl
  have t7 : (s.toList == [112, 117, 110, 99, 116]) = false := by rw [hs]; rfl
  have t8 : (s.toList == [112, 114, 105, 110, 116]) = false := by rw [hs]; rfl
  have t9 : (s.toList == [103, 114, 97, 112, 104]) = false := by rw [hs]; rfl
  have t10 : (s.toList == [99, 110, 116, 114, 108]) = true := by rw [hs]; rfl
  clear hs
  rcases (by omega : (0 ≤ c ∧ c ≤ 31) ∨ (32 ≤ c ∧ c ≤ 47) ∨ (48 ≤ c ∧ c ≤ 57) ∨ (58 ≤ c ∧ c ≤ 64) ∨ (65 ≤ c ∧ c ≤ 90) ∨ (91 ≤ c ∧ c ≤ 96) ∨ (97 ≤ c ∧ c ≤ 122) ∨ (123 ≤ c ∧ c ≤ 126) ∨ (127 ≤ c ∧ c ≤ 127) ∨ (128 ≤ c ∧ c ≤ 255)) with ⟨hlo, hhi⟩ | ⟨hlo, hhi⟩ | ⟨hlo, hhi⟩ | ⟨hlo, hhi⟩ | ⟨hlo, hhi⟩ | ⟨hlo, hhi⟩ | ⟨hlo, hhi⟩ | ⟨hlo, hhi⟩ | ⟨hlo, hhi⟩ | ⟨hlo, hhi⟩
  · have hb : (rgsF nonP [0, 31, 127, 127]) c = true := (by decide +kernel : ∀ c, c < 256 → 0 ≤ c → c ≤ 31 → (rgsF nonP [0, 31, 127, 127]) c = true) c hc hlo hhi
    rw [hb]
    have g48 : decide ((48 : Int) ≤ (c : Int)) = false := decide_eq_false (by omega)
    have g65 : decide ((65 : Int) ≤ (c : Int)) = false := decide_eq_false (by omega)
    have g97 : decide ((97 : Int) ≤ (c : Int)) = false := decide_eq_false (by omega)
    have l31 : decide ((c : Int) ≤ 31) = true := decide_eq_true (by omega)
    have l57 : decide ((c : Int) ≤ 57) = true := decide_eq_true (by omega)
    have l90 : decide ((c : Int) ≤ 90) = true := decide_eq_true (by omega)
    have l122 : decide ((c : Int) ≤ 122) = true := decide_eq_true (by omega)
    have e127 : ((c : Int) == 127) = false := by rw [beq_eq_false_iff_ne]; omega
    clear hb hlo hhi hc
    go_enter Tryd.func28, Tryd.ntmps28
    go_wp2
    refine bodyPost_ret (v := .tuple #[.bool true, .bool true]) (by simp [results, Tryd.results28, go_sem, *]) rfl ⟨rfl, ?_⟩
    rfl
  · have hb : (rgsF nonP [0, 31, 127, 127]) c = false := (by decide +kernel : ∀ c, c < 256 → 32 ≤ c → c ≤ 47 → (rgsF nonP [0, 31, 127, 127]) c = false) c hc hlo hhi
    rw [hb]
    have g48 : decide ((48 : Int) ≤ (c : Int)) = false := decide_eq_false (by omega)
    have g65 : decide ((65 : Int) ≤ (c : Int)) = false := decide_eq_false (by omega)
    have g97 : decide ((97 : Int) ≤ (c : Int)) = false := decide_eq_false (by omega)
    have l31 : decide ((c : Int) ≤ 31) = false := decide_eq_false (by omega)
    have l57 : decide ((c : Int) ≤ 57) = true := decide_eq_true (by omega)
    have l90 : decide ((c : Int) ≤ 90) = true := decide_eq_true (by omega)
    have l122 : decide ((c : Int) ≤ 122) = true := decide_eq_true (by omega)
    have e127 : ((c : Int) == 127) = false := by rw [beq_eq_false_iff_ne]; omega
    clear hb hlo hhi hc
    go_enter Tryd.func28, Tryd.ntmps28
    go_wp2
    refine bodyPost_ret (v := .tuple #[.bool false, .bool true]) (by simp [results, Tryd.results28, go_sem, *]) rfl ⟨rfl, ?_⟩
    rfl
  · have hb : (rgsF nonP [0, 31, 127, 127]) c = false := (by decide +kernel : ∀ c, c < 256 → 48 ≤ c → c ≤ 57 → (rgsF nonP [0, 31, 127, 127]) c = false) c hc hlo hhi
    rw [hb]
    have g48 : decide ((48 : Int) ≤ (c : Int)) = true := decide_eq_true (by omega)
    have g65 : decide ((65 : Int) ≤ (c : Int)) = false := decide_eq_false (by omega)
    have g97 : decide ((97 : Int) ≤ (c : Int)) = false := decide_eq_false (by omega)
    have l31 : decide ((c : Int) ≤ 31) = false := decide_eq_false (by omega)
    have l57 : decide ((c : Int) ≤ 57) = true := decide_eq_true (by omega)
    have l90 : decide ((c : Int) ≤ 90) = true := decide_eq_true (by omega)
    have l122 : decide ((c : Int) ≤ 122) = true := decide_eq_true (by omega)
    have e127 : ((c : Int) == 127) = false := by rw [beq_eq_false_iff_ne]; omega
    clear hb hlo hhi hc
    go_enter Tryd.func28, Tryd.ntmps28
    go_wp2
    refine bodyPost_ret (v := .tuple #[.bool false, .bool true]) (by simp [results, Tryd.results28, go_sem, *]) rfl ⟨rfl, ?_⟩
    rfl
  · have hb : (rgsF nonP [0, 31, 127, 127]) c = false := (by decide +kernel : ∀ c, c < 256 → 58 ≤ c → c ≤ 64 → (rgsF nonP [0, 31, 127, 127]) c = false) c hc hlo hhi
    rw [hb]
    have g48 : decide ((48 : Int) ≤ (c : Int)) = true := decide_eq_true (by omega)
    have g65 : decide ((65 : Int) ≤ (c : Int)) = false := decide_eq_false (by omega)
    have g97 : decide ((97 : Int) ≤ (c : Int)) = false := decide_eq_false (by omega)
    have l31 : decide ((c : Int) ≤ 31) = false := decide_eq_false (by omega)
    have l57 : decide ((c : Int) ≤ 57) = false := decide_eq_false (by omega)
    have l90 : decide ((c : Int) ≤ 90) = true := decide_eq_true (by omega)
    have l122 : decide ((c : Int) ≤ 122) = true := decide_eq_true (by omega)
    have e127 : ((c : Int) == 127) = false := by rw [beq_eq_false_iff_ne]; omega
    clear hb hlo hhi hc
    go_enter Tryd.func28, Tryd.ntmps28
    go_wp2
    refine bodyPost_ret (v := .tuple #[.bool false, .bool true]) (by simp [results, Tryd.results28, go_sem, *]) rfl ⟨rfl, ?_⟩
    rfl
  · have hb : (rgsF nonP [0, 31, 127, 127]) c = false := (by decide +kernel : ∀ c, c < 256 → 65 ≤ c → c ≤ 90 → (rgsF nonP [0, 31, 127, 127]) c = false) c hc hlo hhi
    rw [hb]
    have g48 : decide ((48 : Int) ≤ (c : Int)) = true := decide_eq_true (by omega)
    have g65 : decide ((65 : Int) ≤ (c : Int)) = true := decide_eq_true (by omega)
    have g97 : decide ((97 : Int) ≤ (c : Int)) = false := decide_eq_false (by omega)
    have l31 : decide ((c : Int) ≤ 31) = false := decide_eq_false (by omega)
    have l57 : decide ((c : Int) ≤ 57) = false := decide_eq_false (by omega)
    have l90 : decide ((c : Int) ≤ 90) = true := decide_eq_true (by omega)
    have l122 : decide ((c : Int) ≤ 122) = true := decide_eq_true (by omega)
    have e127 : ((c : Int) == 127) = false := by rw [beq_eq_false_iff_ne]; omega
    clear hb hlo hhi hc
    go_enter Tryd.func28, Tryd.ntmps28
    go_wp2
    refine bodyPost_ret (v := .tuple #[.bool false, .bool true]) (by simp [results, Tryd.results28, go_sem, *]) rfl ⟨rfl, ?_⟩
    rfl
  · have hb : (rgsF nonP [0, 31, 127, 127]) c = false := (by decide +kernel : ∀ c, c < 256 → 91 ≤ c → c ≤ 96 → (rgsF nonP [0, 31, 127, 127]) c = false) c hc hlo hhi
    rw [hb]
    have g48 : decide ((48 : Int) ≤ (c : Int)) = true := decide_eq_true (by omega)
    have g65 : decide ((65 : Int) ≤ (c : Int)) = true := decide_eq_true (by omega)
    have g97 : decide ((97 : Int) ≤ (c : Int)) = false := decide_eq_false (by omega)
    have l31 : decide ((c : Int) ≤ 31) = false := decide_eq_false (by omega)
    have l57 : decide ((c : Int) ≤ 57) = false := decide_eq_false (by omega)
    have l90 : decide ((c : Int) ≤ 90) = false := decide_eq_false (by omega)
    have l122 : decide ((c : Int) ≤ 122) = true := decide_eq_true (by omega)
    have e127 : ((c : Int) == 127) = false := by rw [beq_eq_false_iff_ne]; omega
    clear hb hlo hhi hc
    go_enter Tryd.func28, Tryd.ntmps28
    go_wp2
    refine bodyPost_ret (v := .tuple #[.bool false, .bool true]) (by simp [results, Tryd.results28, go_sem, *]) rfl ⟨rfl, ?_⟩
    rfl
  · have hb : (rgsF nonP [0, 31, 127, 127]) c = false := (by decide +kernel : ∀ c, c < 256 → 97 ≤ c → c ≤ 122 → (rgsF nonP [0, 31, 127, 127]) c = false) c hc hlo hhi
    rw [hb]
    have g48 : decide ((48 : Int) ≤ (c : Int)) = true := decide_eq_true (by omega)
    have g65 : decide ((65 : Int) ≤ (c : Int)) = true := decide_eq_true (by omega)
    have g97 : decide ((97 : Int) ≤ (c : Int)) = true := decide_eq_true (by omega)
    have l31 : decide ((c : Int) ≤ 31) = false := decide_eq_false (by omega)
    have l57 : decide ((c : Int) ≤ 57) = false := decide_eq_false (by omega)
    have l90 : decide ((c : Int) ≤ 90) = false := decide_eq_false (by omega)
    have l122 : decide ((c : Int) ≤ 122) = true := decide_eq_true (by omega)
    have e127 : ((c : Int) == 127) = false := by rw [beq_eq_false_iff_ne]; omega
    clear hb hlo hhi hc
    go_enter Tryd.func28, Tryd.ntmps28
    go_wp2
    refine bodyPost_ret (v := .tuple #[.bool false, .bool true]) (by simp [results, Tryd.results28, go_sem, *]) rfl ⟨rfl, ?_⟩
    rfl
  · have hb : (rgsF nonP [0, 31, 127, 127]) c = false := (by decide +kernel : ∀ c, c < 256 → 123 ≤ c → c ≤ 126 → (rgsF nonP [0, 31, 127, 127]) c = false) c hc hlo hhi
    rw [hb]
    have g48 : decide ((48 : Int) ≤ (c : Int)) = true := decide_eq_true (by omega)
    have g65 : decide ((65 : Int) ≤ (c : Int)) = true := decide_eq_true (by omega)
    have g97 : decide ((97 : Int) ≤ (c : Int)) = true := decide_eq_true (by omega)
    have l31 : decide ((c : Int) ≤ 31) = false := decide_eq_false (by omega)
    have l57 : decide ((c : Int) ≤ 57) = false := decide_eq_false (by omega)
    have l90 : decide ((c : Int) ≤ 90) = false := decide_eq_false (by omega)
    have l122 : decide ((c : Int) ≤ 122) = false := decide_eq_false (by omega)
    have e127 : ((c : Int) == 127) = false := by rw [beq_eq_false_iff_ne]; omega
    clear hb hlo hhi hc
    go_enter Tryd.func28, Tryd.ntmps28
    go_wp2
    refine bodyPost_ret (v := .tuple #[.bool false, .bool true]) (by simp [results, Tryd.results28, go_sem, *]) rfl ⟨rfl, ?_⟩
    rfl
  · have hb : (rgsF nonP [0, 31, 127, 127]) c = true := (by decide +kernel : ∀ c, c < 256 → 127 ≤ c → c ≤ 127 → (rgsF nonP [0, 31, 127, 127]) c = true) c hc hlo hhi
    rw [hb]
    have g48 : decide ((48 : Int) ≤ (c : Int)) = true := decide_eq_true (by omega)
    have g65 : decide ((65 : Int) ≤ (c : Int)) = true := decide_eq_true (by omega)
    have g97 : decide ((97 : Int) ≤ (c : Int)) = true := decide_eq_true (by omega)
    have l31 : decide ((c : Int) ≤ 31) = false := decide_eq_false (by omega)
    have l57 : decide ((c : Int) ≤ 57) = false := decide_eq_false (by omega)
    have l90 : decide ((c : Int) ≤ 90) = false := decide_eq_false (by omega)
    have l122 : decide ((c : Int) ≤ 122) = false := decide_eq_false (by omega)
    have e127 : ((c : Int) == 127) = true := by rw [beq_iff_eq]; omega
    clear hb hlo hhi hc
    go_enter Tryd.func28, Tryd.ntmps28
    go_wp2
    refine bodyPost_ret (v := .tuple #[.bool true, .bool true]) (by simp [results, Tryd.results28, go_sem, *]) rfl ⟨rfl, ?_⟩
    rfl
  · have hb : (rgsF nonP [0, 31, 127, 127]) c = false := (by decide +kernel : ∀ c, c < 256 → 128 ≤ c → c ≤ 255 → (rgsF nonP [0, 31, 127, 127]) c = false) c hc hlo hhi
    rw [hb]
    have g48 : decide ((48 : Int) ≤ (c : Int)) = true := decide_eq_true (by omega)
    have g65 : decide ((65 : Int) ≤ (c : Int)) = true := decide_eq_true (by omega)
    have g97 : decide ((97 : Int) ≤ (c : Int)) = true := decide_eq_true (by omega)
    have l31 : decide ((c : Int) ≤ 31) = false := decide_eq_false (by omega)
    have l57 : decide ((c : Int) ≤ 57) = false := decide_eq_false (by omega)
    have l90 : decide ((c : Int) ≤ 90) = false := decide_eq_false (by omega)
    have l122 : decide ((c : Int) ≤ 122) = false := decide_eq_false (by omega)
    have e127 : ((c : Int) == 127) = false := by rw [beq_eq_false_iff_ne]; omega
    clear hb hlo hhi hc
    go_enter Tryd.func28, Tryd.ntmps28
    go_wp2
    refine bodyPost_ret (v := .tuple #[.bool false, .bool true]) (by simp [results, Tryd.results28, go_sem, *]) rfl ⟨rfl, ?_⟩
    rfl
set_option maxRecDepth 100000 in
set_option maxHeartbeats 8000000 in
theorem in_xdigit (c : Nat) (hc : c < 256) (s : ByteArray) (hs : s.toList = [120, 100, 105, 103, 105, 116]) (w : World) :
    Calls Tryd.prog 28 #[.string s, .int .i64 (c : Int)] w fun e w' => e = .returned (.tuple #[.bool (((fun x => (rgsF nonP [65, 70, 97, 102]) x || (rngP 48 57) x)) c), .bool true]) ∧ w = w' := by
  have t0 : (s.toList == [97, 108, 112, 104, 97]) = false := by rw [hs]; rfl
  have t1 : (s.toList == [100, 105, 103, 105, 116]) = false := by rw [hs]; rfl
  have t2 : (s.toList == [97, 108, 110, 117, 109]) = false := by rw [hs]; rfl
  have t3 : (s.toList == [117, 112, 112, 101, 114]) = false := by rw [hs]; rfl
  have t4 : (s.toList == [108, 111, 119, 101, 114]) = false := by rw [hs]; rfl
  have t5 : (s.toList == [115, 112, 97, 99, 101]) = false := by rw [hs]; rfl
  have t6 : (s.toList == [98, 108, 97, 110, 107]) = false := by rw [hs]; rfl
  have t7 : (s.toList == [112, 117, 110, 99, 116]) = false := by rw [hs]; rfl
  have t8 : (s.toList == [112, 114, 105, 110, 116]) = false := by rw [hs]; rfl
  have t9 : (s.toList == [103, 114, 97, 112, 104]) = false := by rw [hs]; rfl
  have t10 : (s.toList == [99, 110, 116, 114, 108]) = false := by rw [hs]; rfl
  have t11 : (s.toList == [120, 100, 105, 103, 105, 116]) = true := by rw [hs]; rfl
  clear hs
  rcases (by omega : (0 ≤ c ∧ c ≤ 47) ∨ (48 ≤ c ∧ c ≤ 57) ∨ (58 ≤ c ∧ c ≤ 64) ∨ (65 ≤ c ∧ c ≤ 70) ∨ (71 ≤ c ∧ c ≤ 90) ∨ (91 ≤ c ∧ c ≤ 96) ∨ (97 ≤ c ∧ c ≤ 102) ∨ (103 ≤ c ∧ c ≤ 122) ∨ (123 ≤ c ∧ c ≤ 255)) with ⟨hlo, hhi⟩ | ⟨hlo, hhi⟩ | ⟨hlo, hhi⟩ | ⟨hlo, hhi⟩ | ⟨hlo, hhi⟩ | ⟨hlo, hhi⟩ | ⟨hlo, hhi⟩ | ⟨hlo, hhi⟩ | ⟨hlo, hhi⟩
  · have hb : ((fun x => (rgsF nonP [65, 70, 97, 102]) x || (rngP 48 57) x)) c = false := (by decide +kernel : ∀ c, c < 256 → 0 ≤ c → c ≤ 47 → ((fun x => (rgsF nonP [65, 70, 97, 102]) x || (rngP 48 57) x)) c = false) c hc hlo hhi
    rw [hb]
    have g48 : decide ((48 : Int) ≤ (c : Int)) = false := decide_eq_false (by omega)
    have g65 : decide ((65 : Int) ≤ (c : Int)) = false := decide_eq_false (by omega)
    have g97 : decide ((97 : Int) ≤ (c : Int)) = false := decide_eq_false (by omega)
    have l57 : decide ((c : Int) ≤ 57) = true := decide_eq_true (by omega)
    have l70 : decide ((c : Int) ≤ 70) = true := decide_eq_true (by omega)
    have l90 : decide ((c : Int) ≤ 90) = true := decide_eq_true (by omega)
    have l102 : decide ((c : Int) ≤ 102) = true := decide_eq_true (by omega)
    have l122 : decide ((c : Int) ≤ 122) = true := decide_eq_true (by omega)
    clear hb hlo hhi hc
    go_enter Tryd.func28, Tryd.ntmps28
    go_wp2
    refine bodyPost_ret (v := .tuple #[.bool false, .bool true]) (by simp [results, Tryd.results28, go_sem, *]) rfl ⟨rfl, ?_⟩
    rfl
  · have hb : ((fun x => (rgsF nonP [65, 70, 97, 102]) x || (rngP 48 57) x)) c = true := (by decide +kernel : ∀ c, c < 256 → 48 ≤ c → c ≤ 57 → ((fun x => (rgsF nonP [65, 70, 97, 102]) x || (rngP 48 57) x)) c = true) c hc hlo hhi
    rw [hb]
    have g48 : decide ((48 : Int) ≤ (c : Int)) = true := decide_eq_true (by omega)
    have g65 : decide ((65 : Int) ≤ (c : Int)) = false := decide_eq_false (by omega)
    have g97 : decide ((97 : Int) ≤ (c : Int)) = false := decide_eq_false (by omega)
    have l57 : decide ((c : Int) ≤ 57) = true := decide_eq_true (by omega)
    have l70 : decide ((c : Int) ≤ 70) = true := decide_eq_true (by omega)
    have l90 : decide ((c : Int) ≤ 90) = true := decide_eq_true (by omega)
    have l102 : decide ((c : Int) ≤ 102) = true := decide_eq_true (by omega)
    have l122 : decide ((c : Int) ≤ 122) = true := decide_eq_true (by omega)
    clear hb hlo hhi hc
    go_enter Tryd.func28, Tryd.ntmps28
    go_wp2
    refine bodyPost_ret (v := .tuple #[.bool true, .bool true]) (by simp [results, Tryd.results28, go_sem, *]) rfl ⟨rfl, ?_⟩
    rfl
  · have hb : ((fun x => (rgsF nonP [65, 70, 97, 102]) x || (rngP 48 57) x)) c = false := (by decide +kernel : ∀ c, c < 256 → 58 ≤ c → c ≤ 64 → ((fun x => (rgsF nonP [65, 70, 97, 102]) x || (rngP 48 57) x)) c = false) c hc hlo hhi
    rw [hb]
    have g48 : decide ((48 : Int) ≤ (c : Int)) = true := decide_eq_true (by omega)
    have g65 : decide ((65 : Int) ≤ (c : Int)) = false := decide_eq_false (by omega)
    have g97 : decide ((97 : Int) ≤ (c : Int)) = false := decide_eq_false (by omega)
    have l57 : decide ((c : Int) ≤ 57) = false := decide_eq_false (by omega)
    have l70 : decide ((c : Int) ≤ 70) = true := decide_eq_true (by omega)
    have l90 : decide ((c : Int) ≤ 90) = true := decide_eq_true (by omega)
    have l102 : decide ((c : Int) ≤ 102) = true := decide_eq_true (by omega)
    have l122 : decide ((c : Int) ≤ 122) = true := decide_eq_true (by omega)
    clear hb hlo hhi hc
    go_enter Tryd.func28, Tryd.ntmps28
    go_wp2
    refine bodyPost_ret (v := .tuple #[.bool false, .bool true]) (by simp [results, Tryd.results28, go_sem, *]) rfl ⟨rfl, ?_⟩
    rfl
  · have hb : ((fun x => (rgsF nonP [65, 70, 97, 102]) x || (rngP 48 57) x)) c = true := (by decide +kernel : ∀ c, c < 256 → 65 ≤ c → c ≤ 70 → ((fun x => (rgsF nonP [65, 70, 97, 102]) x || (rngP 48 57) x)) c = true) c hc hlo hhi
    rw [hb]
    have g48 : decide ((48 : Int) ≤ (c : Int)) = true := decide_eq_true (by omega)
    have g65 : decide ((65 : Int) ≤ (c : Int)) = true := decide_eq_true (by omega)
    have g97 : decide ((97 : Int) ≤ (c : Int)) = false := decide_eq_false (by omega)
    have l57 : decide ((c : Int) ≤ 57) = false := decide_eq_false (by omega)
    have l70 : decide ((c : Int) ≤ 70) = true := decide_eq_true (by omega)
    have l90 : decide ((c : Int) ≤ 90) = true := decide_eq_true (by omega)
    have l102 : decide ((c : Int) ≤ 102) = true := decide_eq_true (by omega)
    have l122 : decide ((c : Int) ≤ 122) = true := decide_eq_true (by omega)
    clear hb hlo hhi hc
    go_enter Tryd.func28, Tryd.ntmps28
    go_wp2
    refine bodyPost_ret (v := .tuple #[.bool true, .bool true]) (by simp [results, Tryd.results28, go_sem, *]) rfl ⟨rfl, ?_⟩
    rfl
  · have hb : ((fun x => (rgsF nonP [65, 70, 97, 102]) x || (rngP 48 57) x)) c = false := (by decide +kernel : ∀ c, c < 256 → 71 ≤ c → c ≤ 90 → ((fun x => (rgsF nonP [65, 70, 97, 102]) x || (rngP 48 57) x)) c = false) c hc hlo hhi
    rw [hb]
    have g48 : decide ((48 : Int) ≤ (c : Int)) = true := decide_eq_true (by omega)
    have g65 : decide ((65 : Int) ≤ (c : Int)) = true := decide_eq_true (by omega)
    have g97 : decide ((97 : Int) ≤ (c : Int)) = false := decide_eq_false (by omega)
    have l57 : decide ((c : Int) ≤ 57) = false := decide_eq_false (by omega)
    have l70 : decide ((c : Int) ≤ 70) = false := decide_eq_false (by omega)
    have l90 : decide ((c : Int) ≤ 90) = true := decide_eq_true (by omega)
    have l102 : decide ((c : Int) ≤ 102) = true := decide_eq_true (by omega)
    have l122 : decide ((c : Int) ≤ 122) = true := decide_eq_true (by omega)
    clear hb hlo hhi hc
    go_enter Tryd.func28, Tryd.ntmps28
    go_wp2
    refine bodyPost_ret (v := .tuple #[.bool false, .bool true]) (by simp [results, Tryd.results28, go_sem, *]) rfl ⟨rfl, ?_⟩
    rfl
  · have hb : ((fun x => (rgsF nonP [65, 70, 97, 102]) x || (rngP 48 57) x)) c = false := (by decide +kernel : ∀ c, c < 256 → 91 ≤ c → c ≤ 96 → ((fun x => (rgsF nonP [65, 70, 97, 102]) x || (rngP 48 57) x)) c = false) c hc hlo hhi
    rw [hb]
    have g48 : decide ((48 : Int) ≤ (c : Int)) = true := decide_eq_true (by omega)
    have g65 : decide ((65 : Int) ≤ (c : Int)) = true := decide_eq_true (by omega)
    have g97 : decide ((97 : Int) ≤ (c : Int)) = false := decide_eq_false (by omega)
    have l57 : decide ((c : Int) ≤ 57) = false := decide_eq_false (by omega)
    have l70 : decide ((c : Int) ≤ 70) = false := decide_eq_false (by omega)
    have l90 : decide ((c : Int) ≤ 90) = false := decide_eq_false (by omega)
    have l102 : decide ((c : Int) ≤ 102) = true := decide_eq_true (by omega)
    have l122 : decide ((c : Int) ≤ 122) = true := decide_eq_true (by omega)
    clear hb hlo hhi hc
    go_enter Tryd.func28, Tryd.ntmps28
    go_wp2
    refine bodyPost_ret (v := .tuple #[.bool false, .bool true]) (by simp [results, Tryd.results28, go_sem, *]) rfl ⟨rfl, ?_⟩
    rfl
  · have hb : ((fun x => (rgsF nonP [65, 70, 97, 102]) x || (rngP 48 57) x)) c = true := (by decide +kernel : ∀ c, c < 256 → 97 ≤ c → c ≤ 102 → ((fun x => (rgsF nonP [65, 70, 97, 102]) x || (rngP 48 57) x)) c = true) c hc hlo hhi
    rw [hb]
    have g48 : decide ((48 : Int) ≤ (c : Int)) = true := decide_eq_true (by omega)
    have g65 : decide ((65 : Int) ≤ (c : Int)) = true := decide_eq_true (by omega)
    have g97 : decide ((97 : Int) ≤ (c : Int)) = true := decide_eq_true (by omega)
    have l57 : decide ((c : Int) ≤ 57) = false := decide_eq_false (by omega)
    have l70 : decide ((c : Int) ≤ 70) = false := decide_eq_false (by omega)
    have l90 : decide ((c : Int) ≤ 90) = false := decide_eq_false (by omega)
    have l102 : decide ((c : Int) ≤ 102) = true := decide_eq_true (by omega)
    have l122 : decide ((c : Int) ≤ 122) = true := decide_eq_true (by omega)
    clear hb hlo hhi hc
    go_enter Tryd.func28, Tryd.ntmps28
    go_wp2
    refine bodyPost_ret (v := .tuple #[.bool true, .bool true]) (by simp [results, Tryd.results28, go_sem, *]) rfl ⟨rfl, ?_⟩
    rfl
  · have hb : ((fun x => (rgsF nonP [65, 70, 97, 102]) x || (rngP 48 57) x)) c = false := (by decide +kernel : ∀ c, c < 256 → 103 ≤ c → c ≤ 122 → ((fun x => (rgsF nonP [65, 70, 97, 102]) x || (rngP 48 57) x)) c = false) c hc hlo hhi
    rw [hb]
    have g48 : decide ((48 : Int) ≤ (c : Int)) = true := decide_eq_true (by omega)
    have g65 : decide ((65 : Int) ≤ (c : Int)) = true := decide_eq_true (by omega)
    have g97 : decide ((97 : Int) ≤ (c : Int)) = true := decide_eq_true (by omega)
    have l57 : decide ((c : Int) ≤ 57) = false := decide_eq_false (by omega)
    have l70 : decide ((c : Int) ≤ 70) = false := decide_eq_false (by omega)
    have l90 : decide ((c : Int) ≤ 90) = false := decide_eq_false (by omega)
    have l102 : decide ((c : Int) ≤ 102) = false := decide_eq_false (by omega)
    have l122 : decide ((c : Int) ≤ 122) = true := decide_eq_true (by omega)
    clear hb hlo hhi hc
    go_enter Tryd.func28, Tryd.ntmps28
    go_wp2
    refine bodyPost_ret (v := .tuple #[.bool false, .bool true]) (by simp [results, Tryd.results28, go_sem, *]) rfl ⟨rfl, ?_⟩
    rfl
  · have hb : ((fun x => (rgsF nonP [65, 70, 97, 102]) x || (rngP 48 57) x)) c = false := (by decide +kernel : ∀ c, c < 256 → 123 ≤ c → c ≤ 255 → ((fun x => (rgsF nonP [65, 70, 97, 102]) x || (rngP 48 57) x)) c = false) c hc hlo hhi
    rw [hb]
    have g48 : decide ((48 : Int) ≤ (c : Int)) = true := decide_eq_true (by omega)
    have g65 : decide ((65 : Int) ≤ (c : Int)) = true := decide_eq_true (by omega)
    have g97 : decide ((97 : Int) ≤ (c : Int)) = true := decide_eq_true (by omega)
    have l57 : decide ((c : Int) ≤ 57) = false := decide_eq_false (by omega)
    have l70 : decide ((c : Int) ≤ 70) = false := decide_eq_false (by omega)
    have l90 : decide ((c : Int) ≤ 90) = false := decide_eq_false (by omega)
    have l102 : decide ((c : Int) ≤ 102) = false := decide_eq_false (by omega)
    have l122 : decide ((c : Int) ≤ 122) = false := decide_eq_false (by omega)
    clear hb hlo hhi hc
    go_enter Tryd.func28, Tryd.ntmps28
    go_wp2
    refine bodyPost_ret (v := .tuple #[.bool false, .bool true]) (by simp [results, Tryd.results28, go_sem, *]) rfl ⟨rfl, ?_⟩
    rfl
set_option maxRecDepth 100000 in
set_option maxHeartbeats 8000000 in
theorem in_none (c : Nat) (hc : c < 256) (s : ByteArray) (hs : ∀ N ∈ [[97, 108, 112, 104, 97], [100, 105, 103, 105, 116], [97, 108, 110, 117, 109], [117, 112, 112, 101, 114], [108, 111, 119, 101, 114], [115, 112, 97, 99, 101], [98, 108, 97, 110, 107], [112, 117, 110, 99, 116], [112, 114, 105, 110, 116], [103, 114, 97, 112, 104], [99, 110, 116, 114, 108], [120, 100, 105, 103, 105, 116]], s.toList ≠ N) (w : World) :
    Calls Tryd.prog 28 #[.string s, .int .i64 (c : Int)] w fun e w' => e = .returned (.tuple #[.bool ((nonP) c), .bool false]) ∧ w = w' := by
  have t0 : (s.toList == [97, 108, 112, 104, 97]) = false := by rw [beq_eq_false_iff_ne]; exact hs _ (by simp)
  have t1 : (s.toList == [100, 105, 103, 105, 116]) = false := by rw [beq_eq_false_iff_ne]; exact hs _ (by simp)
  have t2 : (s.toList == [97, 108, 110, 117, 109]) = false := by rw [beq_eq_false_iff_ne]; exact hs _ (by simp)
  have t3 : (s.toList == [117, 112, 112, 101, 114]) = false := by rw [beq_eq_false_iff_ne]; exact hs _ (by simp)
  have t4 : (s.toList == [108, 111, 119, 101, 114]) = false := by rw [beq_eq_false_iff_ne]; exact hs _ (by simp)
  have t5 : (s.toList == [115, 112, 97, 99, 101]) = false := by rw [beq_eq_false_iff_ne]; exact hs _ (by simp)
  have t6 : (s.toList == [98, 108, 97, 110, 107]) = false := by rw [beq_eq_false_iff_ne]; exact hs _ (by simp)
  have t7 : (s.toList == [112, 117, 110, 99, 116]) = false := by rw [beq_eq_false_iff_ne]; exact hs _ (by simp)
  have t8 : (s.toList == [112, 114, 105, 110, 116]) = false := by rw [beq_eq_false_iff_ne]; exact hs _ (by simp)
  have t9 : (s.toList == [103, 114, 97, 112, 104]) = false := by rw [beq_eq_false_iff_ne]; exact hs _ (by simp)
  have t10 : (s.toList == [99, 110, 116, 114, 108]) = false := by rw [beq_eq_false_iff_ne]; exact hs _ (by simp)
  have t11 : (s.toList == [120, 100, 105, 103, 105, 116]) = false := by rw [beq_eq_false_iff_ne]; exact hs _ (by simp)
  clear hs
  rcases (by omega : (0 ≤ c ∧ c ≤ 47) ∨ (48 ≤ c ∧ c ≤ 57) ∨ (58 ≤ c ∧ c ≤ 64) ∨ (65 ≤ c ∧ c ≤ 90) ∨ (91 ≤ c ∧ c ≤ 96) ∨ (97 ≤ c ∧ c ≤ 122) ∨ (123 ≤ c ∧ c ≤ 255)) with ⟨hlo, hhi⟩ | ⟨hlo, hhi⟩ | ⟨hlo, hhi⟩ | ⟨hlo, hhi⟩ | ⟨hlo, hhi⟩ | ⟨hlo, hhi⟩ | ⟨hlo, hhi⟩
  · have hb : (nonP) c = false := (by decide +kernel : ∀ c, c < 256 → 0 ≤ c → c ≤ 47 → (nonP) c = false) c hc hlo hhi
    rw [hb]
    have g48 : decide ((48 : Int) ≤ (c : Int)) = false := decide_eq_false (by omega)
    have g65 : decide ((65 : Int) ≤ (c : Int)) = false := decide_eq_false (by omega)
    have g97 : decide ((97 : Int) ≤ (c : Int)) = false := decide_eq_false (by omega)
    have l57 : decide ((c : Int) ≤ 57) = true := decide_eq_true (by omega)
    have l90 : decide ((c : Int) ≤ 90) = true := decide_eq_true (by omega)
    have l122 : decide ((c : Int) ≤ 122) = true := decide_eq_true (by omega)
    clear hb hlo hhi hc
    go_enter Tryd.func28, Tryd.ntmps28
    go_wp2
    refine bodyPost_ret (v := .tuple #[.bool false, .bool false]) (by simp [results, Tryd.results28, go_sem, *]) rfl ⟨rfl, ?_⟩
    rfl
  · have hb : (nonP) c = false := (by decide +kernel : ∀ c, c < 256 → 48 ≤ c → c ≤ 57 → (nonP) c = false) c hc hlo hhi
    rw [hb]
    have g48 : decide ((48 : Int) ≤ (c : Int)) = true := decide_eq_true (by omega)
    have g65 : decide ((65 : Int) ≤ (c : Int)) = false := decide_eq_false (by omega)
    have g97 : decide ((97 : Int) ≤ (c : Int)) = false := decide_eq_false (by omega)
    have l57 : decide ((c : Int) ≤ 57) = true := decide_eq_true (by omega)
    have l90 : decide ((c : Int) ≤ 90) = true := decide_eq_true (by omega)
    have l122 : decide ((c : Int) ≤ 122) = true := decide_eq_true (by omega)
    clear hb hlo hhi hc
    go_enter Tryd.func28, Tryd.ntmps28
    go_wp2
    refine bodyPost_ret (v := .tuple #[.bool false, .bool false]) (by simp [results, Tryd.results28, go_sem, *]) rfl ⟨rfl, ?_⟩
    rfl
  · have hb : (nonP) c = false := (by decide +kernel : ∀ c, c < 256 → 58 ≤ c → c ≤ 64 → (nonP) c = false) c hc hlo hhi
    rw [hb]
    have g48 : decide ((48 : Int) ≤ (c : Int)) = true := decide_eq_true (by omega)
    have g65 : decide ((65 : Int) ≤ (c : Int)) = false := decide_eq_false (by omega)
    have g97 : decide ((97 : Int) ≤ (c : Int)) = false := decide_eq_false (by omega)
    have l57 : decide ((c : Int) ≤ 57) = false := decide_eq_false (by omega)
    have l90 : decide ((c : Int) ≤ 90) = true := decide_eq_true (by omega)
    have l122 : decide ((c : Int) ≤ 122) = true := decide_eq_true (by omega)
    clear hb hlo hhi hc
    go_enter Tryd.func28, Tryd.ntmps28
    go_wp2
    refine bodyPost_ret (v := .tuple #[.bool false, .bool false]) (by simp [results, Tryd.results28, go_sem, *]) rfl ⟨rfl, ?_⟩
    rfl
  · have hb : (nonP) c = false := (by decide +kernel : ∀ c, c < 256 → 65 ≤ c → c ≤ 90 → (nonP) c = false) c hc hlo hhi
    rw [hb]
    have g48 : decide ((48 : Int) ≤ (c : Int)) = true := decide_eq_true (by omega)
    have g65 : decide ((65 : Int) ≤ (c : Int)) = true := decide_eq_true (by omega)
    have g97 : decide ((97 : Int) ≤ (c : Int)) = false := decide_eq_false (by omega)
    have l57 : decide ((c : Int) ≤ 57) = false := decide_eq_false (by omega)
    have l90 : decide ((c : Int) ≤ 90) = true := decide_eq_true (by omega)
    have l122 : decide ((c : Int) ≤ 122) = true := decide_eq_true (by omega)
    clear hb hlo hhi hc
    go_enter Tryd.func28, Tryd.ntmps28
    go_wp2
    refine bodyPost_ret (v := .tuple #[.bool false, .bool false]) (by simp [results, Tryd.results28, go_sem, *]) rfl ⟨rfl, ?_⟩
    rfl
  · have hb : (nonP) c = false := (by decide +kernel : ∀ c, c < 256 → 91 ≤ c → c ≤ 96 → (nonP) c = false) c hc hlo hhi
    rw [hb]
    have g48 : decide ((48 : Int) ≤ (c : Int)) = true := decide_eq_true (by omega)
    have g65 : decide ((65 : Int) ≤ (c : Int)) = true := decide_eq_true (by omega)
    have g97 : decide ((97 : Int) ≤ (c : Int)) = false := decide_eq_false (by omega)
    have l57 : decide ((c : Int) ≤ 57) = false := decide_eq_false (by omega)
    have l90 : decide ((c : Int) ≤ 90) = false := decide_eq_false (by omega)
    have l122 : decide ((c : Int) ≤ 122) = true := decide_eq_true (by omega)
    clear hb hlo hhi hc
    go_enter Tryd.func28, Tryd.ntmps28
    go_wp2
    refine bodyPost_ret (v := .tuple #[.bool false, .bool false]) (by simp [results, Tryd.results28, go_sem, *]) rfl ⟨rfl, ?_⟩
    rfl
  · have hb : (nonP) c = false := (by decide +kernel : ∀ c, c < 256 → 97 ≤ c → c ≤ 122 → (nonP) c = false) c hc hlo hhi
    rw [hb]
    have g48 : decide ((48 : Int) ≤ (c : Int)) = true := decide_eq_true (by omega)
    have g65 : decide ((65 : Int) ≤ (c : Int)) = true := decide_eq_true (by omega)
    have g97 : decide ((97 : Int) ≤ (c : Int)) = true := decide_eq_true (by omega)
    have l57 : decide ((c : Int) ≤ 57) = false := decide_eq_false (by omega)
    have l90 : decide ((c : Int) ≤ 90) = false := decide_eq_false (by omega)
    have l122 : decide ((c : Int) ≤ 122) = true := decide_eq_true (by omega)
    clear hb hlo hhi hc
    go_enter Tryd.func28, Tryd.ntmps28
    go_wp2
    refine bodyPost_ret (v := .tuple #[.bool false, .bool false]) (by simp [results, Tryd.results28, go_sem, *]) rfl ⟨rfl, ?_⟩
    rfl
  · have hb : (nonP) c = false := (by decide +kernel : ∀ c, c < 256 → 123 ≤ c → c ≤ 255 → (nonP) c = false) c hc hlo hhi
    rw [hb]
    have g48 : decide ((48 : Int) ≤ (c : Int)) = true := decide_eq_true (by omega)
    have g65 : decide ((65 : Int) ≤ (c : Int)) = true := decide_eq_true (by omega)
    have g97 : decide ((97 : Int) ≤ (c : Int)) = true := decide_eq_true (by omega)
    have l57 : decide ((c : Int) ≤ 57) = false := decide_eq_false (by omega)
    have l90 : decide ((c : Int) ≤ 90) = false := decide_eq_false (by omega)
    have l122 : decide ((c : Int) ≤ 122) = false := decide_eq_false (by omega)
    clear hb hlo hhi hc
    go_enter Tryd.func28, Tryd.ntmps28
    go_wp2
    refine bodyPost_ret (v := .tuple #[.bool false, .bool false]) (by simp [results, Tryd.results28, go_sem, *]) rfl ⟨rfl, ?_⟩
    rfl
end Go.Proofs.YtfmekmbdienbjaaDoor
