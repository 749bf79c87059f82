/- The document's own classes: In. -/
import Derived.Test.YtfmekmbdienbjaaDoorSetD
namespace Go.Proofs.YtfmekmbdienbjaaDoor
set_option linter.unusedSimpArgs false
set_option linter.unusedVariables false
set_option linter.unnecessarySimpa false
open Go.RowKit
set_option maxRecDepth 100000 in
set_option maxHeartbeats 8000000 in
theorem in_upper (c : Nat) (hc : c < 256) (s : ByteArray) (hs : s.toList = [117, 112, 112, 101, 114]) (w : World) :
    Calls Tryd.prog 28 #[.string s, .int .i64 (c : Int)] w fun e w' => e = .returned (.tuple #[.bool (((fun x => (nonP) x || (rngP 65 90) x)) c), .bool true]) ∧ w = w' := by
  have t0 : (s.toList == [97, 108, 112, 104, 97]) = false := by rw [hs]; rfl
  have t1 : (s.toList == [100, 105, 103, 105, 116]) = false := by rw [hs]; rfl
  have t2 : (s.toList == [97, 108, 110, 117, 109]) = false := by rw [hs]; rfl
  have t3 : (s.toList == [117, 112, 112, 101, 114]) = true := by rw [hs]; rfl
  clear hs
  rcases (by omega : (0 ≤ c ∧ c ≤ 47) ∨ (48 ≤ c ∧ c ≤ 57) ∨ (58 ≤ c ∧ c ≤ 64) ∨ (65 ≤ c ∧ c ≤ 90) ∨ (91 ≤ c ∧ c ≤ 96) ∨ (97 ≤ c ∧ c ≤ 122) ∨ (123 ≤ c ∧ c ≤ 255)) with ⟨hlo, hhi⟩ | ⟨hlo, hhi⟩ | ⟨hlo, hhi⟩ | ⟨hlo, hhi⟩ | ⟨hlo, hhi⟩ | ⟨hlo, hhi⟩ | ⟨hlo, hhi⟩
  · have hb : ((fun x => (nonP) x || (rngP 65 90) x)) c = false := (by decide +kernel : ∀ c, c < 256 → 0 ≤ c → c ≤ 47 → ((fun x => (nonP) x || (rngP 65 90) x)) c = false) c hc hlo hhi
    rw [hb]
    have g48 : decide ((48 : Int) ≤ (c : Int)) = false := decide_eq_false (by omega)
    have g65 : decide ((65 : Int) ≤ (c : Int)) = false := decide_eq_false (by omega)
    have g97 : decide ((97 : Int) ≤ (c : Int)) = false := decide_eq_false (by omega)
    have l57 : decide ((c : Int) ≤ 57) = true := decide_eq_true (by omega)
    have l90 : decide ((c : Int) ≤ 90) = true := decide_eq_true (by omega)
    have l122 : decide ((c : Int) ≤ 122) = true := decide_eq_true (by omega)
    clear hb hlo hhi hc
    go_enter Tryd.func28, Tryd.ntmps28
    go_wp2
    refine bodyPost_ret (v := .tuple #[.bool false, .bool true]) (by simp [results, Tryd.results28, go_sem, *]) rfl ⟨rfl, ?_⟩
    rfl
  · have hb : ((fun x => (nonP) x || (rngP 65 90) x)) c = false := (by decide +kernel : ∀ c, c < 256 → 48 ≤ c → c ≤ 57 → ((fun x => (nonP) x || (rngP 65 90) x)) c = false) c hc hlo hhi
    rw [hb]
    have g48 : decide ((48 : Int) ≤ (c : Int)) = true := decide_eq_true (by omega)
    have g65 : decide ((65 : Int) ≤ (c : Int)) = false := decide_eq_false (by omega)
    have g97 : decide ((97 : Int) ≤ (c : Int)) = false := decide_eq_false (by omega)
    have l57 : decide ((c : Int) ≤ 57) = true := decide_eq_true (by omega)
    have l90 : decide ((c : Int) ≤ 90) = true := decide_eq_true (by omega)
    have l122 : decide ((c : Int) ≤ 122) = true := decide_eq_true (by omega)
    clear hb hlo hhi hc
    go_enter Tryd.func28, Tryd.ntmps28
    go_wp2
    refine bodyPost_ret (v := .tuple #[.bool false, .bool true]) (by simp [results, Tryd.results28, go_sem, *]) rfl ⟨rfl, ?_⟩
    rfl
  · have hb : ((fun x => (nonP) x || (rngP 65 90) x)) c = false := (by decide +kernel : ∀ c, c < 256 → 58 ≤ c → c ≤ 64 → ((fun x => (nonP) x || (rngP 65 90) x)) c = false) c hc hlo hhi
    rw [hb]
    have g48 : decide ((48 : Int) ≤ (c : Int)) = true := decide_eq_true (by omega)
    have g65 : decide ((65 : Int) ≤ (c : Int)) = false := decide_eq_false (by omega)
    have g97 : decide ((97 : Int) ≤ (c : Int)) = false := decide_eq_false (by omega)
    have l57 : decide ((c : Int) ≤ 57) = false := decide_eq_false (by omega)
    have l90 : decide ((c : Int) ≤ 90) = true := decide_eq_true (by omega)
    have l122 : decide ((c : Int) ≤ 122) = true := decide_eq_true (by omega)
    clear hb hlo hhi hc
    go_enter Tryd.func28, Tryd.ntmps28
    go_wp2
    refine bodyPost_ret (v := .tuple #[.bool false, .bool true]) (by simp [results, Tryd.results28, go_sem, *]) rfl ⟨rfl, ?_⟩
    rfl
  · have hb : ((fun x => (nonP) x || (rngP 65 90) x)) c = true := (by decide +kernel : ∀ c, c < 256 → 65 ≤ c → c ≤ 90 → ((fun x => (nonP) x || (rngP 65 90) x)) c = true) c hc hlo hhi
    rw [hb]
    have g48 : decide ((48 : Int) ≤ (c : Int)) = true := decide_eq_true (by omega)
    have g65 : decide ((65 : Int) ≤ (c : Int)) = true := decide_eq_true (by omega)
    have g97 : decide ((97 : Int) ≤ (c : Int)) = false := decide_eq_false (by omega)
    have l57 : decide ((c : Int) ≤ 57) = false := decide_eq_false (by omega)
    have l90 : decide ((c : Int) ≤ 90) = true := decide_eq_true (by omega)
    have l122 : decide ((c : Int) ≤ 122) = true := decide_eq_true (by omega)
    clear hb hlo hhi hc
    go_enter Tryd.func28, Tryd.ntmps28
    go_wp2
    refine bodyPost_ret (v := .tuple #[.bool true, .bool true]) (by simp [results, Tryd.results28, go_sem, *]) rfl ⟨rfl, ?_⟩
    rfl
  · have hb : ((fun x => (nonP) x || (rngP 65 90) x)) c = false := (by decide +kernel : ∀ c, c < 256 → 91 ≤ c → c ≤ 96 → ((fun x => (nonP) x || (rngP 65 90) x)) c = false) c hc hlo hhi
    rw [hb]
    have g48 : decide ((48 : Int) ≤ (c : Int)) = true := decide_eq_true (by omega)
    have g65 : decide ((65 : Int) ≤ (c : Int)) = true := decide_eq_true (by omega)
    have g97 : decide ((97 : Int) ≤ (c : Int)) = false := decide_eq_false (by omega)
    have l57 : decide ((c : Int) ≤ 57) = false := decide_eq_false (by omega)
    have l90 : decide ((c : Int) ≤ 90) = false := decide_eq_false (by omega)
    have l122 : decide ((c : Int) ≤ 122) = true := decide_eq_true (by omega)
    clear hb hlo hhi hc
    go_enter Tryd.func28, Tryd.ntmps28
    go_wp2
    refine bodyPost_ret (v := .tuple #[.bool false, .bool true]) (by simp [results, Tryd.results28, go_sem, *]) rfl ⟨rfl, ?_⟩
    rfl
  · have hb : ((fun x => (nonP) x || (rngP 65 90) x)) c = false := (by decide +kernel : ∀ c, c < 256 → 97 ≤ c → c ≤ 122 → ((fun x => (nonP) x || (rngP 65 90) x)) c = false) c hc hlo hhi
    rw [hb]
    have g48 : decide ((48 : Int) ≤ (c : Int)) = true := decide_eq_true (by omega)
    have g65 : decide ((65 : Int) ≤ (c : Int)) = true := decide_eq_true (by omega)
    have g97 : decide ((97 : Int) ≤ (c : Int)) = true := decide_eq_true (by omega)
    have l57 : decide ((c : Int) ≤ 57) = false := decide_eq_false (by omega)
    have l90 : decide ((c : Int) ≤ 90) = false := decide_eq_false (by omega)
    have l122 : decide ((c : Int) ≤ 122) = true := decide_eq_true (by omega)
    clear hb hlo hhi hc
    go_enter Tryd.func28, Tryd.ntmps28
    go_wp2
    refine bodyPost_ret (v := .tuple #[.bool false, .bool true]) (by simp [results, Tryd.results28, go_sem, *]) rfl ⟨rfl, ?_⟩
    rfl
  · have hb : ((fun x => (nonP) x || (rngP 65 90) x)) c = false := (by decide +kernel : ∀ c, c < 256 → 123 ≤ c → c ≤ 255 → ((fun x => (nonP) x || (rngP 65 90) x)) c = false) c hc hlo hhi
    rw [hb]
    have g48 : decide ((48 : Int) ≤ (c : Int)) = true := decide_eq_true (by omega)
    have g65 : decide ((65 : Int) ≤ (c : Int)) = true := decide_eq_true (by omega)
    have g97 : decide ((97 : Int) ≤ (c : Int)) = true := decide_eq_true (by omega)
    have l57 : decide ((c : Int) ≤ 57) = false := decide_eq_false (by omega)
    have l90 : decide ((c : Int) ≤ 90) = false := decide_eq_false (by omega)
    have l122 : decide ((c : Int) ≤ 122) = false := decide_eq_false (by omega)
    clear hb hlo hhi hc
    go_enter Tryd.func28, Tryd.ntmps28
    go_wp2
    refine bodyPost_ret (v := .tuple #[.bool false, .bool true]) (by simp [results, Tryd.results28, go_sem, *]) rfl ⟨rfl, ?_⟩
    rfl
set_option maxRecDepth 100000 in
set_option maxHeartbeats 8000000 in
theorem in_lower (c : Nat) (hc : c < 256) (s : ByteArray) (hs : s.toList = [108, 111, 119, 101, 114]) (w : World) :
    Calls Tryd.prog 28 #[.string s, .int .i64 (c : Int)] w fun e w' => e = .returned (.tuple #[.bool ((rngP 97 122) c), .bool true]) ∧ w = w' := by
  have t0 : (s.toList == [97, 108, 112, 104, 97]) = false := by rw [hs]; rfl
  have t1 : (s.toList == [100, 105, 103, 105, 116]) = false := by rw [hs]; rfl
  have t2 : (s.toList == [97, 108, 110, 117, 109]) = false := by rw [hs]; rfl
  have t3 : (s.toList == [117, 112, 112, 101, 114]) = false := by rw [hs]; rfl
  have t4 : (s.toList == [108, 111, 119, 101, 114]) = true := by rw [hs]; rfl
  clear hs
  rcases (by omega : (0 ≤ c ∧ c ≤ 47) ∨ (48 ≤ c ∧ c ≤ 57) ∨ (58 ≤ c ∧ c ≤ 64) ∨ (65 ≤ c ∧ c ≤ 90) ∨ (91 ≤ c ∧ c ≤ 96) ∨ (97 ≤ c ∧ c ≤ 122) ∨ (123 ≤ c ∧ c ≤ 255)) with ⟨hlo, hhi⟩ | ⟨hlo, hhi⟩ | ⟨hlo, hhi⟩ | ⟨hlo, hhi⟩ | ⟨hlo, hhi⟩ | ⟨hlo, hhi⟩ | ⟨hlo, hhi⟩
  · have hb : (rngP 97 122) c = false := (by decide +kernel : ∀ c, c < 256 → 0 ≤ c → c ≤ 47 → (rngP 97 122) c = false) c hc hlo hhi
    rw [hb]
    have g48 : decide ((48 : Int) ≤ (c : Int)) = false := decide_eq_false (by omega)
    have g65 : decide ((65 : Int) ≤ (c : Int)) = false := decide_eq_false (by omega)
    have g97 : decide ((97 : Int) ≤ (c : Int)) = false := decide_eq_false (by omega)
    have l57 : decide ((c : Int) ≤ 57) = true := decide_eq_true (by omega)
    have l90 : decide ((c : Int) ≤ 90) = true := decide_eq_true (by omega)
    have l122 : decide ((c : Int) ≤ 122) = true := decide_eq_true (by omega)
    clear hb hlo hhi hc
    go_enter Tryd.func28, Tryd.ntmps28
    go_wp2
    refine bodyPost_ret (v := .tuple #[.bool false, .bool true]) (by simp [results, Tryd.results28, go_sem, *]) rfl ⟨rfl, ?_⟩
    rfl
  · have hb : (rngP 97 122) c = false := (by decide +kernel : ∀ c, c < 256 → 48 ≤ c → c ≤ 57 → (rngP 97 122) c = false) c hc hlo hhi
    rw [hb]
    have g48 : decide ((48 : Int) ≤ (c : Int)) = true := decide_eq_true (by omega)
    have g65 : decide ((65 : Int) ≤ (c : Int)) = false := decide_eq_false (by omega)
    have g97 : decide ((97 : Int) ≤ (c : Int)) = false := decide_eq_false (by omega)
    have l57 : decide ((c : Int) ≤ 57) = true := decide_eq_true (by omega)
    have l90 : decide ((c : Int) ≤ 90) = true := decide_eq_true (by omega)
    have l122 : decide ((c : Int) ≤ 122) = true := decide_eq_true (by omega)
    clear hb hlo hhi hc
    go_enter Tryd.func28, Tryd.ntmps28
    go_wp2
    refine bodyPost_ret (v := .tuple #[.bool false, .bool true]) (by simp [results, Tryd.results28, go_sem, *]) rfl ⟨rfl, ?_⟩
    rfl
  · have hb : (rngP 97 122) c = false := (by decide +kernel : ∀ c, c < 256 → 58 ≤ c → c ≤ 64 → (rngP 97 122) c = false) c hc hlo hhi
    rw [hb]
    have g48 : decide ((48 : Int) ≤ (c : Int)) = true := decide_eq_true (by omega)
    have g65 : decide ((65 : Int) ≤ (c : Int)) = false := decide_eq_false (by omega)
    have g97 : decide ((97 : Int) ≤ (c : Int)) = false := decide_eq_false (by omega)
    have l57 : decide ((c : Int) ≤ 57) = false := decide_eq_false (by omega)
    have l90 : decide ((c : Int) ≤ 90) = true := decide_eq_true (by omega)
    have l122 : decide ((c : Int) ≤ 122) = true := decide_eq_true (by omega)
    clear hb hlo hhi hc
    go_enter Tryd.func28, Tryd.ntmps28
    go_wp2
    refine bodyPost_ret (v := .tuple #[.bool false, .bool true]) (by simp [results, Tryd.results28, go_sem, *]) rfl ⟨rfl, ?_⟩
    rfl
  · have hb : (rngP 97 122) c = false := (by decide +kernel : ∀ c, c < 256 → 65 ≤ c → c ≤ 90 → (rngP 97 122) c = false) c hc hlo hhi
    rw [hb]
    have g48 : decide ((48 : Int) ≤ (c : Int)) = true := decide_eq_true (by omega)
    have g65 : decide ((65 : Int) ≤ (c : Int)) = true := decide_eq_true (by omega)
    have g97 : decide ((97 : Int) ≤ (c : Int)) = false := decide_eq_false (by omega)
    have l57 : decide ((c : Int) ≤ 57) = false := decide_eq_false (by omega)
    have l90 : decide ((c : Int) ≤ 90) = true := decide_eq_true (by omega)
    have l122 : decide ((c : Int) ≤ 122) = true := decide_eq_true (by omega)
    clear hb hlo hhi hc
    go_enter Tryd.func28, Tryd.ntmps28
    go_wp2
    refine bodyPost_ret (v := .tuple #[.bool false, .bool true]) (by simp [results, Tryd.results28, go_sem, *]) rfl ⟨rfl, ?_⟩
    rfl
  · have hb : (rngP 97 122) c = false := (by decide +kernel : ∀ c, c < 256 → 91 ≤ c → c ≤ 96 → (rngP 97 122) c = false) c hc hlo hhi
    rw [hb]
    have g48 : decide ((48 : Int) ≤ (c : Int)) = true := decide_eq_true (by omega)
    have g65 : decide ((65 : Int) ≤ (c : Int)) = true := decide_eq_true (by omega)
    have g97 : decide ((97 : Int) ≤ (c : Int)) = false := decide_eq_false (by omega)
    have l57 : decide ((c : Int) ≤ 57) = false := decide_eq_false (by omega)
    have l90 : decide ((c : Int) ≤ 90) = false := decide_eq_false (by omega)
    have l122 : decide ((c : Int) ≤ 122) = true := decide_eq_true (by omega)
    clear hb hlo hhi hc
    go_enter Tryd.func28, Tryd.ntmps28
    go_wp2
    refine bodyPost_ret (v := .tuple #[.bool false, .bool true]) (by simp [results, Tryd.results28, go_sem, *]) rfl ⟨rfl, ?_⟩
    rfl
  · have hb : (rngP 97 122) c = true := (by decide +kernel : ∀ c, c < 256 → 97 ≤ c → c ≤ 122 → (rngP 97 122) c = true) c hc hlo hhi
    rw [hb]
    have g48 : decide ((48 : Int) ≤ (c : Int)) = true := decide_eq_true (by omega)
    have g65 : decide ((65 : Int) ≤ (c : Int)) = true := decide_eq_true (by omega)
    have g97 : decide ((97 : Int) ≤ (c : Int)) = true := decide_eq_true (by omega)
    have l57 : decide ((c : Int) ≤ 57) = false := decide_eq_false (by omega)
    have l90 : decide ((c : Int) ≤ 90) = false := decide_eq_false (by omega)
    have l122 : decide ((c : Int) ≤ 122) = true := decide_eq_true (by omega)
    clear hb hlo hhi hc
    go_enter Tryd.func28, Tryd.ntmps28
    go_wp2
    refine bodyPost_ret (v := .tuple #[.bool true, .bool true]) (by simp [results, Tryd.results28, go_sem, *]) rfl ⟨rfl, ?_⟩
    rfl
  · have hb : (rngP 97 122) c = false := (by decide +kernel : ∀ c, c < 256 → 123 ≤ c → c ≤ 255 → (rngP 97 122) c = false) c hc hlo hhi
    rw [hb]
    have g48 : decide ((48 : Int) ≤ (c : Int)) = true := decide_eq_true (by omega)
    have g65 : decide ((65 : Int) ≤ (c : Int)) = true := decide_eq_true (by omega)
    have g97 : decide ((97 : Int) ≤ (c : Int)) = true := decide_eq_true (by omega)
    have l57 : decide ((c : Int) ≤ 57) = false := decide_eq_false (by omega)
    have l90 : decide ((c : Int) ≤ 90) = false := decide_eq_false (by omega)
    have l122 : decide ((c : Int) ≤ 122) = false := decide_eq_false (by omega)
    clear hb hlo hhi hc
    go_enter Tryd.func28, Tryd.ntmps28
    go_wp2
    refine bodyPost_ret (v := .tuple #[.bool false, .bool true]) (by simp [results, Tryd.results28, go_sem, *]) rfl ⟨rfl, ?_⟩
    rfl
set_option maxRecDepth 100000 in
set_option maxHeartbeats 8000000 in
theorem in_space (c : Nat) (hc : c < 256) (s : ByteArray) (hs : s.toList = [115, 112, 97, 99, 101]) (w : World) :
    Calls Tryd.prog 28 #[.string s, .int .i64 (c : Int)] w fun e w' => e = .returned (.tuple #[.bool (((fun x => (rngP 10 13) x || (rgsF nonP [9, 9, 32, 32]) x)) c), .bool true]) ∧ w = w' := by
  have t0 : (s.toList == [97, 108, 112, 104, 97]) = false := by rw [hs]; rfl
  have t1 : (s.toList == [100, 105, 103, 105, 116]) = false := by rw [hs]; rfl
  have t2 : (s.toList == [97, 108, 110, 117, 109]) = false := by rw [hs]; rfl
  have t3 : (s.toList == [117, 112, 112, 101, 114]) = false := by rw [hs]; rfl
  have t4 : (s.toList == [108, 111, 119, 101, 114]) = false := by rw [hs]; rfl
  have t5 : (s.toList == [115, 112, 97, 99, 101]) = true := by rw [hs]; rfl
  clear hs
  rcases (by omega : (0 ≤ c ∧ c ≤ 8) ∨ (9 ≤ c ∧ c ≤ 13) ∨ (14 ≤ c ∧ c ≤ 31) ∨ (32 ≤ c ∧ c ≤ 32) ∨ (33 ≤ c ∧ c ≤ 47) ∨ (48 ≤ c ∧ c ≤ 57) ∨ (58 ≤ c ∧ c ≤ 64) ∨ (65 ≤ c ∧ c ≤ 90) ∨ (91 ≤ c ∧ c ≤ 96) ∨ (97 ≤ c ∧ c ≤ 122) ∨ (123 ≤ c ∧ c ≤ 255)) with ⟨hlo, hhi⟩ | ⟨hlo, hhi⟩ | ⟨hlo, hhi⟩ | ⟨hlo, hhi⟩ | ⟨hlo, hhi⟩ | ⟨hlo, hhi⟩ | ⟨hlo, hhi⟩ | ⟨hlo, hhi⟩ | ⟨hlo, hhi⟩ | ⟨hlo, hhi⟩ | ⟨hlo, hhi⟩
  · have hb : ((fun x => (rngP 10 13) x || (rgsF nonP [9, 9, 32, 32]) x)) c = false := (by decide +kernel : ∀ c, c < 256 → 0 ≤ c → c ≤ 8 → ((fun x => (rngP 10 13) x || (rgsF nonP [9, 9, 32, 32]) x)) c = false) c hc hlo hhi
    rw [hb]
    have g9 : decide ((9 : Int) ≤ (c : Int)) = false := decide_eq_false (by omega)
    have g48 : decide ((48 : Int) ≤ (c : Int)) = false := decide_eq_false (by omega)
    have g65 : decide ((65 : Int) ≤ (c : Int)) = false := decide_eq_false (by omega)
    have g97 : decide ((97 : Int) ≤ (c : Int)) = false := decide_eq_false (by omega)
    have l13 : decide ((c : Int) ≤ 13) = true := decide_eq_true (by omega)
    have l57 : decide ((c : Int) ≤ 57) = true := decide_eq_true (by omega)
    have l90 : decide ((c : Int) ≤ 90) = true := decide_eq_true (by omega)
    have l122 : decide ((c : Int) ≤ 122) = true := decide_eq_true (by omega)
    have e32 : ((c : Int) == 32) = false := by rw [beq_eq_false_iff_ne]; omega
    clear hb hlo hhi hc
    go_enter Tryd.func28, Tryd.ntmps28
    go_wp2
    refine bodyPost_ret (v := .tuple #[.bool false, .bool true]) (by simp [results, Tryd.results28, go_sem, *]) rfl ⟨rfl, ?_⟩
    rfl
  · have hb : ((fun x => (rngP 10 13) x || (rgsF nonP [9, 9, 32, 32]) x)) c = true := (by decide +kernel : ∀ c, c < 256 → 9 ≤ c → c ≤ 13 → ((fun x => (rngP 10 13) x || (rgsF nonP [9, 9, 32, 32]) x)) c = true) c hc hlo hhi
    rw [hb]
    have g9 : decide ((9 : Int) ≤ (c : Int)) = true := decide_eq_true (by omega)
    have g48 : decide ((48 : Int) ≤ (c : Int)) = false := decide_eq_false (by omega)
    have g65 : decide ((65 : Int) ≤ (c : Int)) = false := decide_eq_false (by omega)
    have g97 : decide ((97 : Int) ≤ (c : Int)) = false := decide_eq_false (by omega)
    have l13 : decide ((c : Int) ≤ 13) = true := decide_eq_true (by omega)
    have l57 : decide ((c : Int) ≤ 57) = true := decide_eq_true (by omega)
    have l90 : decide ((c : Int) ≤ 90) = true := decide_eq_true (by omega)
    have l122 : decide ((c : Int) ≤ 122) = true := decide_eq_true (by omega)
    have e32 : ((c : Int) == 32) = false := by rw [beq_eq_false_iff_ne]; omega
    clear hb hlo hhi hc
    go_enter Tryd.func28, Tryd.ntmps28
    go_wp2
    refine bodyPost_ret (v := .tuple #[.bool true, .bool true]) (by simp [results, Tryd.results28, go_sem, *]) rfl ⟨rfl, ?_⟩
    rfl
  · have hb : ((fun x => (rngP 10 13) x || (rgsF nonP [9, 9, 32, 32]) x)) c = false := (by decide +kernel : ∀ c, c < 256 → 14 ≤ c → c ≤ 31 → ((fun x => (rngP 10 13) x || (rgsF nonP [9, 9, 32, 32]) x)) c = false) c hc hlo hhi
    rw [hb]
    have g9 : decide ((9 : Int) ≤ (c : Int)) = true := decide_eq_true (by omega)
    have g48 : decide ((48 : Int) ≤ (c : Int)) = false := decide_eq_false (by omega)
    have g65 : decide ((65 : Int) ≤ (c : Int)) = false := decide_eq_false (by omega)
    have g97 : decide ((97 : Int) ≤ (c : Int)) = false := decide_eq_false (by omega)
    have l13 : decide ((c : Int) ≤ 13) = false := decide_eq_false (by omega)
    have l57 : decide ((c : Int) ≤ 57) = true := decide_eq_true (by omega)
    have l90 : decide ((c : Int) ≤ 90) = true := decide_eq_true (by omega)
    have l122 : decide ((c : Int) ≤ 122) = true := decide_eq_true (by omega)
    have e32 : ((c : Int) == 32) = false := by rw [beq_eq_false_iff_ne]; omega
    clear hb hlo hhi hc
    go_enter Tryd.func28, Tryd.ntmps28
    go_wp2
    refine bodyPost_ret (v := .tuple #[.bool false, .bool true]) (by simp [results, Tryd.results28, go_sem, *]) rfl ⟨rfl, ?_⟩
    rfl
  · have hb : ((fun x => (rngP 10 13) x || (rgsF nonP [9, 9, 32, 32]) x)) c = true := (by decide +kernel : ∀ c, c < 256 → 32 ≤ c → c ≤ 32 → ((fun x => (rngP 10 13) x || (rgsF nonP [9, 9, 32, 32]) x)) c = true) c hc hlo hhi
    rw [hb]
    have g9 : decide ((9 : Int) ≤ (c : Int)) = true := decide_eq_true (by omega)
    have g48 : decide ((48 : Int) ≤ (c : Int)) = false := decide_eq_false (by omega)
    have g65 : decide ((65 : Int) ≤ (c : Int)) = false := decide_eq_false (by omega)
    have g97 : decide ((97 : Int) ≤ (c : Int)) = false := decide_eq_false (by omega)
    have l13 : decide ((c : Int) ≤ 13) = false := decide_eq_false (by omega)
    have l57 : decide ((c : Int) ≤ 57) = true := decide_eq_true (by omega)
    have l90 : decide ((c : Int) ≤ 90) = true := decide_eq_true (by omega)
    have l122 : decide ((c : Int) ≤ 122) = true := decide_eq_true (by omega)
    have e32 : ((c : Int) == 32) = true := by rw [beq_iff_eq]; omega
    clear hb hlo hhi hc
    go_enter Tryd.func28, Tryd.ntmps28
    go_wp2
    refine bodyPost_ret (v := .tuple #[.bool true, .bool true]) (by simp [results, Tryd.results28, go_sem, *]) rfl ⟨rfl, ?_⟩
    rfl
  · have hb : ((fun x => (rngP 10 13) x || (rgsF nonP [9, 9, 32, 32]) x)) c = false := (by decide +kernel : ∀ c, c < 256 → 33 ≤ c → c ≤ 47 → ((fun x => (rngP 10 13) x || (rgsF nonP [9, 9, 32, 32]) x)) c = false) c hc hlo hhi
    rw [hb]
    have g9 : decide ((9 : Int) ≤ (c : Int)) = true := decide_eq_true (by omega)
    have g48 : decide ((48 : Int) ≤ (c : Int)) = false := decide_eq_false (by omega)
    have g65 : decide ((65 : Int) ≤ (c : Int)) = false := decide_eq_false (by omega)
    have g97 : decide ((97 : Int) ≤ (c : Int)) = false := decide_eq_false (by omega)
    have l13 : decide ((c : Int) ≤ 13) = false := decide_eq_false (by omega)
    have l57 : decide ((c : Int) ≤ 57) = true := decide_eq_true (by omega)
    have l90 : decide ((c : Int) ≤ 90) = true := decide_eq_true (by omega)
    have l122 : decide ((c : Int) ≤ 122) = true := decide_eq_true (by omega)
    have e32 : ((c : Int) == 32) = false := by rw [beq_eq_false_iff_ne]; omega
    clear hb hlo hhi hc
    go_enter Tryd.func28, Tryd.ntmps28
    go_wp2
    refine bodyPost_ret (v := .tuple #[.bool false, .bool true]) (by simp [results, Tryd.results28, go_sem, *]) rfl ⟨rfl, ?_⟩
    rfl
  · have hb : ((fun x => (rngP 10 13) x || (rgsF nonP [9, 9, 32, 32]) x)) c = false := (by decide +kernel : ∀ c, c < 256 → 48 ≤ c → c ≤ 57 → ((fun x => (rngP 10 13) x || (rgsF nonP [9, 9, 32, 32]) x)) c = false) c hc hlo hhi
    rw [hb]
    have g9 : decide ((9 : Int) ≤ (c : Int)) = true := decide_eq_true (by omega)
    have g48 : decide ((48 : Int) ≤ (c : Int)) = true := decide_eq_true (by omega)
    have g65 : decide ((65 : Int) ≤ (c : Int)) = false := decide_eq_false (by omega)
    have g97 : decide ((97 : Int) ≤ (c : Int)) = false := decide_eq_false (by omega)
    have l13 : decide ((c : Int) ≤ 13) = false := decide_eq_false (by omega)
    have l57 : decide ((c : Int) ≤ 57) = true := decide_eq_true (by omega)
    have l90 : decide ((c : Int) ≤ 90) = true := decide_eq_true (by omega)
    have l122 : decide ((c : Int) ≤ 122) = true := decide_eq_true (by omega)
    have e32 : ((c : Int) == 32) = false := by rw [beq_eq_false_iff_ne]; omega
    clear hb hlo hhi hc
    go_enter Tryd.func28, Tryd.ntmps28
    go_wp2
    refine bodyPost_ret (v := .tuple #[.bool false, .bool true]) (by simp [results, Tryd.results28, go_sem, *]) rfl ⟨rfl, ?_⟩
    rfl
  · have hb : ((fun x => (rngP 10 13) x || (rgsF nonP [9, 9, 32, 32]) x)) c = false := (by decide +kernel : ∀ c, c < 256 → 58 ≤ c → c ≤ 64 → ((fun x => (rngP 10 13) x || (rgsF nonP [9, 9, 32, 32]) x)) c = false) c hc hlo hhi
    rw [hb]
    have g9 : decide ((9 : Int) ≤ (c : Int)) = true := decide_eq_true (by omega)
    have g48 : decide ((48 : Int) ≤ (c : Int)) = true := decide_eq_true (by omega)
    have g65 : decide ((65 : Int) ≤ (c : Int)) = false := decide_eq_false (by omega)
    have g97 : decide ((97 : Int) ≤ (c : Int)) = false := decide_eq_false (by omega)
    have l13 : decide ((c : Int) ≤ 13) = false := decide_eq_false (by omega)
    have l57 : decide ((c : Int) ≤ 57) = false := decide_eq_false (by omega)
    have l90 : decide ((c : Int) ≤ 90) = true := decide_eq_true (by omega)
    have l122 : decide ((c : Int) ≤ 122) = true := decide_eq_true (by omega)
    have e32 : ((c : Int) == 32) = false := by rw [beq_eq_false_iff_ne]; omega
    clear hb hlo hhi hc
    go_enter Tryd.func28, Tryd.ntmps28
    go_wp2
    refine bodyPost_ret (v := .tuple #[.bool false, .bool true]) (by simp [results, Tryd.results28, go_sem, *]) rfl ⟨rfl, ?_⟩
    rfl
  · have hb : ((fun x => (rngP 10 13) x || (rgsF nonP [9, 9, 32, 32]) x)) c = false := (by decide +kernel : ∀ c, c < 256 → 65 ≤ c → c ≤ 90 → ((fun x => (rngP 10 13) x || (rgsF nonP [9, 9, 32, 32]) x)) c = false) c hc hlo hhi
    rw [hb]
    have g9 : decide ((9 : Int) ≤ (c : Int)) = true := decide_eq_true (by omega)
    have g48 : decide ((48 : Int) ≤ (c : Int)) = true := decide_eq_true (by omega)
    have g65 : decide ((65 : Int) ≤ (c : Int)) = true := decide_eq_true (by omega)
    have g97 : decide ((97 : Int) ≤ (c : Int)) = false := decide_eq_false (by omega)
    have l13 : decide ((c : Int) ≤ 13) = false := decide_eq_false (by omega)
    have l57 : decide ((c : Int) ≤ 57) = false := decide_eq_false (by omega)
    have l90 : decide ((c : Int) ≤ 90) = true := decide_eq_true (by omega)
    have l122 : decide ((c : Int) ≤ 122) = true := decide_eq_true (by omega)
    have e32 : ((c : Int) == 32) = false := by rw [beq_eq_false_iff_ne]; omega
    clear hb hlo hhi hc
    go_enter Tryd.func28, Tryd.ntmps28
    go_wp2
    refine bodyPost_ret (v := .tuple #[.bool false, .bool true]) (by simp [results, Tryd.results28, go_sem, *]) rfl ⟨rfl, ?_⟩
    rfl
  · have hb : ((fun x => (rngP 10 13) x || (rgsF nonP [9, 9, 32, 32]) x)) c = false := (by decide +kernel : ∀ c, c < 256 → 91 ≤ c → c ≤ 96 → ((fun x => (rngP 10 13) x || (rgsF nonP [9, 9, 32, 32]) x)) c = false) c hc hlo hhi
    rw [hb]
    have g9 : decide ((9 : Int) ≤ (c : Int)) = true := decide_eq_true (by omega)
    have g48 : decide ((48 : Int) ≤ (c : Int)) = true := decide_eq_true (by omega)
    have g65 : decide ((65 : Int) ≤ (c : Int)) = true := decide_eq_true (by omega)
    have g97 : decide ((97 : Int) ≤ (c : Int)) = false := decide_eq_false (by omega)
    have l13 : decide ((c : Int) ≤ 13) = false := decide_eq_false (by omega)
    have l57 : decide ((c : Int) ≤ 57) = false := decide_eq_false (by omega)
    have l90 : decide ((c : Int) ≤ 90) = false := decide_eq_false (by omega)
    have l122 : decide ((c : Int) ≤ 122) = true := decide_eq_true (by omega)
    have e32 : ((c : Int) == 32) = false := by rw [beq_eq_false_iff_ne]; omega
    clear hb hlo hhi hc
    go_enter Tryd.func28, Tryd.ntmps28
    go_wp2
    refine bodyPost_ret (v := .tuple #[.bool false, .bool true]) (by simp [results, Tryd.results28, go_sem, *]) rfl ⟨rfl, ?_⟩
    rfl
  · have hb : ((fun x => (rngP 10 13) x || (rgsF nonP [9, 9, 32, 32]) x)) c = false := (by decide +kernel : ∀ c, c < 256 → 97 ≤ c → c ≤ 122 → ((fun x => (rngP 10 13) x || (rgsF nonP [9, 9, 32, 32]) x)) c = false) c hc hlo hhi
    rw [hb]
    have g9 : decide ((9 : Int) ≤ (c : Int)) = true := decide_eq_true (by omega)
    have g48 : decide ((48 : Int) ≤ (c : Int)) = true := decide_eq_true (by omega)
    have g65 : decide ((65 : Int) ≤ (c : Int)) = true := decide_eq_true (by omega)
    have g97 : decide ((97 : Int) ≤ (c : Int)) = true := decide_eq_true (by omega)
    have l13 : decide ((c : Int) ≤ 13) = false := decide_eq_false (by omega)
    have l57 : decide ((c : Int) ≤ 57) = false := decide_eq_false (by omega)
    have l90 : decide ((c : Int) ≤ 90) = false := decide_eq_false (by omega)
    have l122 : decide ((c : Int) ≤ 122) = true := decide_eq_true (by omega)
    have e32 : ((c : Int) == 32) = false := by rw [beq_eq_false_iff_ne]; omega
    clear hb hlo hhi hc
    go_enter Tryd.func28, Tryd.ntmps28
    go_wp2
    refine bodyPost_ret (v := .tuple #[.bool false, .bool true]) (by simp [results, Tryd.results28, go_sem, *]) rfl ⟨rfl, ?_⟩
    rfl
  · have hb : ((fun x => (rngP 10 13) x || (rgsF nonP [9, 9, 32, 32]) x)) c = false := (by decide +kernel : ∀ c, c < 256 → 123 ≤ c → c ≤ 255 → ((fun x => (rngP 10 13) x || (rgsF nonP [9, 9, 32, 32]) x)) c = false) c hc hlo hhi
    rw [hb]
    have g9 : decide ((9 : Int) ≤ (c : Int)) = true := decide_eq_true (by omega)
    have g48 : decide ((48 : Int) ≤ (c : Int)) = true := decide_eq_true (by omega)
    have g65 : decide ((65 : Int) ≤ (c : Int)) = true := decide_eq_true (by omega)
    have g97 : decide ((97 : Int) ≤ (c : Int)) = true := decide_eq_true (by omega)
    have l13 : decide ((c : Int) ≤ 13) = false := decide_eq_false (by omega)
    have l57 : decide ((c : Int) ≤ 57) = false := decide_eq_false (by omega)
    have l90 : decide ((c : Int) ≤ 90) = false := decide_eq_false (by omega)
    have l122 : decide ((c : Int) ≤ 122) = false := decide_eq_false (by omega)
    have e32 : ((c : Int) == 32) = false := by rw [beq_eq_false_iff_ne]; omega
    clear hb hlo hhi hc
    go_enter Tryd.func28, Tryd.ntmps28
    go_wp2
    refine bodyPost_ret (v := .tuple #[.bool false, .bool true]) (by simp [results, Tryd.results28, go_sem, *]) rfl ⟨rfl, ?_⟩
    rfl
end Go.Proofs.YtfmekmbdienbjaaDoor
