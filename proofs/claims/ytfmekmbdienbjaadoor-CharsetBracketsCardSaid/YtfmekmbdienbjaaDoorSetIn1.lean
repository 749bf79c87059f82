/- The document's own classes: In. -/
import Derived.Test.YtfmekmbdienbjaaDoorSetD
namespace Go.Proofs.YtfmekmbdienbjaaDoor
set_option linter.unusedSimpArgs false
set_option linter.unusedVariables false
set_option linter.unnecessarySimpa false
open Go.RowKit
set_option maxRecDepth 100000 in
set_option maxHeartbeats 8000000 in
theorem in_alpha (c : Nat) (hc : c < 256) (s : ByteArray) (hs : s.toList = [97, 108, 112, 104, 97]) (w : World) :
    Calls Tryd.prog 28 #[.string s, .int .i64 (c : Int)] w fun e w' => e = .returned (.tuple #[.bool (((fun x => ((fun x => (nonP) x || (rngP 97 122) x)) x || (rngP 65 90) x)) c), .bool true]) ∧ w = w' := by
  have t0 : (s.toList == [97, 108, 112, 104, 97]) = true := by rw [hs]; rfl
  clear hs
  rcases (by omega : (0 ≤ c ∧ c ≤ 47) ∨ (48 ≤ c ∧ c ≤ 57) ∨ (58 ≤ c ∧ c ≤ 64) ∨ (65 ≤ c ∧ c ≤ 90) ∨ (91 ≤ c ∧ c ≤ 96) ∨ (97 ≤ c ∧ c ≤ 122) ∨ (123 ≤ c ∧ c ≤ 255)) with ⟨hlo, hhi⟩ | ⟨hlo, hhi⟩ | ⟨hlo, hhi⟩ | ⟨hlo, hhi⟩ | ⟨hlo, hhi⟩ | ⟨hlo, hhi⟩ | ⟨hlo, hhi⟩
  · have hb : ((fun x => ((fun x => (nonP) x || (rngP 97 122) x)) x || (rngP 65 90) x)) c = false := (by decide +kernel : ∀ c, c < 256 → 0 ≤ c → c ≤ 47 → ((fun x => ((fun x => (nonP) x || (rngP 97 122) x)) x || (rngP 65 90) x)) c = false) c hc hlo hhi
    rw [hb]
    have g48 : decide ((48 : Int) ≤ (c : Int)) = false := decide_eq_false (by omega)
    have g65 : decide ((65 : Int) ≤ (c : Int)) = false := decide_eq_false (by omega)
    have g97 : decide ((97 : Int) ≤ (c : Int)) = false := decide_eq_false (by omega)
    have l57 : decide ((c : Int) ≤ 57) = true := decide_eq_true (by omega)
    have l90 : decide ((c : Int) ≤ 90) = true := decide_eq_true (by omega)
    have l122 : decide ((c : Int) ≤ 122) = true := decide_eq_true (by omega)
    clear hb hlo hhi hc
    go_enter Tryd.func28, Tryd.ntmps28
    go_wp2
    refine bodyPost_ret (v := .tuple #[.bool false, .bool true]) (by simp [results, Tryd.results28, go_sem, *]) rfl ⟨rfl, ?_⟩
    rfl
  · have hb : ((fun x => ((fun x => (nonP) x || (rngP 97 122) x)) x || (rngP 65 90) x)) c = false := (by decide +kernel : ∀ c, c < 256 → 48 ≤ c → c ≤ 57 → ((fun x => ((fun x => (nonP) x || (rngP 97 122) x)) x || (rngP 65 90) x)) c = false) c hc hlo hhi
    rw [hb]
    have g48 : decide ((48 : Int) ≤ (c : Int)) = true := decide_eq_true (by omega)
    have g65 : decide ((65 : Int) ≤ (c : Int)) = false := decide_eq_false (by omega)
    have g97 : decide ((97 : Int) ≤ (c : Int)) = false := decide_eq_false (by omega)
    have l57 : decide ((c : Int) ≤ 57) = true := decide_eq_true (by omega)
    have l90 : decide ((c : Int) ≤ 90) = true := decide_eq_true (by omega)
    have l122 : decide ((c : Int) ≤ 122) = true := decide_eq_true (by omega)
    clear hb hlo hhi hc
    go_enter Tryd.func28, Tryd.ntmps28
    go_wp2
    refine bodyPost_ret (v := .tuple #[.bool false, .bool true]) (by simp [results, Tryd.results28, go_sem, *]) rfl ⟨rfl, ?_⟩
    rfl
  · have hb : ((fun x => ((fun x => (nonP) x || (rngP 97 122) x)) x || (rngP 65 90) x)) c = false := (by decide +kernel : ∀ c, c < 256 → 58 ≤ c → c ≤ 64 → ((fun x => ((fun x => (nonP) x || (rngP 97 122) x)) x || (rngP 65 90) x)) c = false) c hc hlo hhi
    rw [hb]
    have g48 : decide ((48 : Int) ≤ (c : Int)) = true := decide_eq_true (by omega)
    have g65 : decide ((65 : Int) ≤ (c : Int)) = false := decide_eq_false (by omega)
    have g97 : decide ((97 : Int) ≤ (c : Int)) = false := decide_eq_false (by omega)
    have l57 : decide ((c : Int) ≤ 57) = false := decide_eq_false (by omega)
    have l90 : decide ((c : Int) ≤ 90) = true := decide_eq_true (by omega)
    have l122 : decide ((c : Int) ≤ 122) = true := decide_eq_true (by omega)
    clear hb hlo hhi hc
    go_enter Tryd.func28, Tryd.ntmps28
    go_wp2
    refine bodyPost_ret (v := .tuple #[.bool false, .bool true]) (by simp [results, Tryd.results28, go_sem, *]) rfl ⟨rfl, ?_⟩
    rfl
  · have hb : ((fun x => ((fun x => (nonP) x || (rngP 97 122) x)) x || (rngP 65 90) x)) c = true := (by decide +kernel : ∀ c, c < 256 → 65 ≤ c → c ≤ 90 → ((fun x => ((fun x => (nonP) x || (rngP 97 122) x)) x || (rngP 65 90) x)) c = true) c hc hlo hhi
    rw [hb]
    have g48 : decide ((48 : Int) ≤ (c : Int)) = true := decide_eq_true (by omega)
    have g65 : decide ((65 : Int) ≤ (c : Int)) = true := decide_eq_true (by omega)
    have g97 : decide ((97 : Int) ≤ (c : Int)) = false := decide_eq_false (by omega)
    have l57 : decide ((c : Int) ≤ 57) = false := decide_eq_false (by omega)
    have l90 : decide ((c : Int) ≤ 90) = true := decide_eq_true (by omega)
    have l122 : decide ((c : Int) ≤ 122) = true := decide_eq_true (by omega)
    clear hb hlo hhi hc
    go_enter Tryd.func28, Tryd.ntmps28
    go_wp2
    refine bodyPost_ret (v := .tuple #[.bool true, .bool true]) (by simp [results, Tryd.results28, go_sem, *]) rfl ⟨rfl, ?_⟩
    rfl
  · have hb : ((fun x => ((fun x => (nonP) x || (rngP 97 122) x)) x || (rngP 65 90) x)) c = false := (by decide +kernel : ∀ c, c < 256 → 91 ≤ c → c ≤ 96 → ((fun x => ((fun x => (nonP) x || (rngP 97 122) x)) x || (rngP 65 90) x)) c = false) c hc hlo hhi
    rw [hb]
    have g48 : decide ((48 : Int) ≤ (c : Int)) = true := decide_eq_true (by omega)
    have g65 : decide ((65 : Int) ≤ (c : Int)) = true := decide_eq_true (by omega)
    have g97 : decide ((97 : Int) ≤ (c : Int)) = false := decide_eq_false (by omega)
    have l57 : decide ((c : Int) ≤ 57) = false := decide_eq_false (by omega)
    have l90 : decide ((c : Int) ≤ 90) = false := decide_eq_false (by omega)
    have l122 : decide ((c : Int) ≤ 122) = true := decide_eq_true (by omega)
    clear hb hlo hhi hc
    go_enter Tryd.func28, Tryd.ntmps28
    go_wp2
    refine bodyPost_ret (v := .tuple #[.bool false, .bool true]) (by simp [results, Tryd.results28, go_sem, *]) rfl ⟨rfl, ?_⟩
    rfl
  · have hb : ((fun x => ((fun x => (nonP) x || (rngP 97 122) x)) x || (rngP 65 90) x)) c = true := (by decide +kernel : ∀ c, c < 256 → 97 ≤ c → c ≤ 122 → ((fun x => ((fun x => (nonP) x || (rngP 97 122) x)) x || (rngP 65 90) x)) c = true) c hc hlo hhi
    rw [hb]
    have g48 : decide ((48 : Int) ≤ (c : Int)) = true := decide_eq_true (by omega)
    have g65 : decide ((65 : Int) ≤ (c : Int)) = true := decide_eq_true (by omega)
    have g97 : decide ((97 : Int) ≤ (c : Int)) = true := decide_eq_true (by omega)
    have l57 : decide ((c : Int) ≤ 57) = false := decide_eq_false (by omega)
    have l90 : decide ((c : Int) ≤ 90) = false := decide_eq_false (by omega)
    have l122 : decide ((c : Int) ≤ 122) = true := decide_eq_true (by omega)
    clear hb hlo hhi hc
    go_enter Tryd.func28, Tryd.ntmps28
    go_wp2
    refine bodyPost_ret (v := .tuple #[.bool true, .bool true]) (by simp [results, Tryd.results28, go_sem, *]) rfl ⟨rfl, ?_⟩
    rfl
  · have hb : ((fun x => ((fun x => (nonP) x || (rngP 97 122) x)) x || (rngP 65 90) x)) c = false := (by decide +kernel : ∀ c, c < 256 → 123 ≤ c → c ≤ 255 → ((fun x => ((fun x => (nonP) x || (rngP 97 122) x)) x || (rngP 65 90) x)) c = false) c hc hlo hhi
    rw [hb]
    have g48 : decide ((48 : Int) ≤ (c : Int)) = true := decide_eq_true (by omega)
    have g65 : decide ((65 : Int) ≤ (c : Int)) = true := decide_eq_true (by omega)
    have g97 : decide ((97 : Int) ≤ (c : Int)) = true := decide_eq_true (by omega)
    have l57 : decide ((c : Int) ≤ 57) = false := decide_eq_false (by omega)
    have l90 : decide ((c : Int) ≤ 90) = false := decide_eq_false (by omega)
    have l122 : decide ((c : Int) ≤ 122) = false := decide_eq_false (by omega)
    clear hb hlo hhi hc
    go_enter Tryd.func28, Tryd.ntmps28
    go_wp2
    refine bodyPost_ret (v := .tuple #[.bool false, .bool true]) (by simp [results, Tryd.results28, go_sem, *]) rfl ⟨rfl, ?_⟩
    rfl
set_option maxRecDepth 100000 in
set_option maxHeartbeats 8000000 in
theorem in_digit (c : Nat) (hc : c < 256) (s : ByteArray) (hs : s.toList = [100, 105, 103, 105, 116]) (w : World) :
    Calls Tryd.prog 28 #[.string s, .int .i64 (c : Int)] w fun e w' => e = .returned (.tuple #[.bool (((fun x => (nonP) x || (rngP 48 57) x)) c), .bool true]) ∧ w = w' := by
  have t0 : (s.toList == [97, 108, 112, 104, 97]) = false := by rw [hs]; rfl
  have t1 : (s.toList == [100, 105, 103, 105, 116]) = true := by rw [hs]; rfl
  clear hs
  rcases (by omega : (0 ≤ c ∧ c ≤ 47) ∨ (48 ≤ c ∧ c ≤ 57) ∨ (58 ≤ c ∧ c ≤ 64) ∨ (65 ≤ c ∧ c ≤ 90) ∨ (91 ≤ c ∧ c ≤ 96) ∨ (97 ≤ c ∧ c ≤ 122) ∨ (123 ≤ c ∧ c ≤ 255)) with ⟨hlo, hhi⟩ | ⟨hlo, hhi⟩ | ⟨hlo, hhi⟩ | ⟨hlo, hhi⟩ | ⟨hlo, hhi⟩ | ⟨hlo, hhi⟩ | ⟨hlo, hhi⟩
  · have hb : ((fun x => (nonP) x || (rngP 48 57) x)) c = false := (by decide +kernel : ∀ c, c < 256 → 0 ≤ c → c ≤ 47 → ((fun x => (nonP) x || (rngP 48 57) x)) c = false) c hc hlo hhi
    rw [hb]
    have g48 : decide ((48 : Int) ≤ (c : Int)) = false := decide_eq_false (by omega)
    have g65 : decide ((65 : Int) ≤ (c : Int)) = false := decide_eq_false (by omega)
    have g97 : decide ((97 : Int) ≤ (c : Int)) = false := decide_eq_false (by omega)
    have l57 : decide ((c : Int) ≤ 57) = true := decide_eq_true (by omega)
    have l90 : decide ((c : Int) ≤ 90) = true := decide_eq_true (by omega)
    have l122 : decide ((c : Int) ≤ 122) = true := decide_eq_true (by omega)
    clear hb hlo hhi hc
    go_enter Tryd.func28, Tryd.ntmps28
    go_wp2
    refine bodyPost_ret (v := .tuple #[.bool false, .bool true]) (by simp [results, Tryd.results28, go_sem, *]) rfl ⟨rfl, ?_⟩
    rfl
  · have hb : ((fun x => (nonP) x || (rngP 48 57) x)) c = true := (by decide +kernel : ∀ c, c < 256 → 48 ≤ c → c ≤ 57 → ((fun x => (nonP) x || (rngP 48 57) x)) c = true) c hc hlo hhi
    rw [hb]
    have g48 : decide ((48 : Int) ≤ (c : Int)) = true := decide_eq_true (by omega)
    have g65 : decide ((65 : Int) ≤ (c : Int)) = false := decide_eq_false (by omega)
    have g97 : decide ((97 : Int) ≤ (c : Int)) = false := decide_eq_false (by omega)
    have l57 : decide ((c : Int) ≤ 57) = true := decide_eq_true (by omega)
    have l90 : decide ((c : Int) ≤ 90) = true := decide_eq_true (by omega)
    have l122 : decide ((c : Int) ≤ 122) = true := decide_eq_true (by omega)
    clear hb hlo hhi hc
    go_enter Tryd.func28, Tryd.ntmps28
    go_wp2
    refine bodyPost_ret (v := .tuple #[.bool true, .bool true]) (by simp [results, Tryd.results28, go_sem, *]) rfl ⟨rfl, ?_⟩
    rfl
  · have hb : ((fun x => (nonP) x || (rngP 48 57) x)) c = false := (by decide +kernel : ∀ c, c < 256 → 58 ≤ c → c ≤ 64 → ((fun x => (nonP) x || (rngP 48 57) x)) c = false) c hc hlo hhi
    rw [hb]
    have g48 : decide ((48 : Int) ≤ (c : Int)) = true := decide_eq_true (by omega)
    have g65 : decide ((65 : Int) ≤ (c : Int)) = false := decide_eq_false (by omega)
    have g97 : decide ((97 : Int) ≤ (c : Int)) = false := decide_eq_false (by omega)
    have l57 : decide ((c : Int) ≤ 57) = false := decide_eq_false (by omega)
    have l90 : decide ((c : Int) ≤ 90) = true := decide_eq_true (by omega)
    have l122 : decide ((c : Int) ≤ 122) = true := decide_eq_true (by omega)
    clear hb hlo hhi hc
    go_enter Tryd.func28, Tryd.ntmps28
    go_wp2
    refine bodyPost_ret (v := .tuple #[.bool false, .bool true]) (by simp [results, Tryd.results28, go_sem, *]) rfl ⟨rfl, ?_⟩
    rfl
  · have hb : ((fun x => (nonP) x || (rngP 48 57) x)) c = false := (by decide +kernel : ∀ c, c < 256 → 65 ≤ c → c ≤ 90 → ((fun x => (nonP) x || (rngP 48 57) x)) c = false) c hc hlo hhi
    rw [hb]
    have g48 : decide ((48 : Int) ≤ (c : Int)) = true := decide_eq_true (by omega)
    have g65 : decide ((65 : Int) ≤ (c : Int)) = true := decide_eq_true (by omega)
    have g97 : decide ((97 : Int) ≤ (c : Int)) = false := decide_eq_false (by omega)
    have l57 : decide ((c : Int) ≤ 57) = false := decide_eq_false (by omega)
    have l90 : decide ((c : Int) ≤ 90) = true := decide_eq_true (by omega)
    have l122 : decide ((c : Int) ≤ 122) = true := decide_eq_true (by omega)
    clear hb hlo hhi hc
    go_enter Tryd.func28, Tryd.ntmps28
    go_wp2
    refine bodyPost_ret (v := .tuple #[.bool false, .bool true]) (by simp [results, Tryd.results28, go_sem, *]) rfl ⟨rfl, ?_⟩
    rfl
  · have hb : ((fun x => (nonP) x || (rngP 48 57) x)) c = false := (by decide +kernel : ∀ c, c < 256 → 91 ≤ c → c ≤ 96 → ((fun x => (nonP) x || (rngP 48 57) x)) c = false) c hc hlo hhi
    rw [hb]
    have g48 : decide ((48 : Int) ≤ (c : Int)) = true := decide_eq_true (by omega)
    have g65 : decide ((65 : Int) ≤ (c : Int)) = true := decide_eq_true (by omega)
    have g97 : decide ((97 : Int) ≤ (c : Int)) = false := decide_eq_false (by omega)
    have l57 : decide ((c : Int) ≤ 57) = false := decide_eq_false (by omega)
    have l90 : decide ((c : Int) ≤ 90) = false := decide_eq_false (by omega)
    have l122 : decide ((c : Int) ≤ 122) = true := decide_eq_true (by omega)
    clear hb hlo hhi hc
    go_enter Tryd.func28, Tryd.ntmps28
    go_wp2
    refine bodyPost_ret (v := .tuple #[.bool false, .bool true]) (by simp [results, Tryd.results28, go_sem, *]) rfl ⟨rfl, ?_⟩
    rfl
  · have hb : ((fun x => (nonP) x || (rngP 48 57) x)) c = false := (by decide +kernel : ∀ c, c < 256 → 97 ≤ c → c ≤ 122 → ((fun x => (nonP) x || (rngP 48 57) x)) c = false) c hc hlo hhi
    rw [hb]
    have g48 : decide ((48 : Int) ≤ (c : Int)) = true := decide_eq_true (by omega)
    have g65 : decide ((65 : Int) ≤ (c : Int)) = true := decide_eq_true (by omega)
    have g97 : decide ((97 : Int) ≤ (c : Int)) = true := decide_eq_true (by omega)
    have l57 : decide ((c : Int) ≤ 57) = false := decide_eq_false (by omega)
    have l90 : decide ((c : Int) ≤ 90) = false := decide_eq_false (by omega)
    have l122 : decide ((c : Int) ≤ 122) = true := decide_eq_true (by omega)
    clear hb hlo hhi hc
    go_enter Tryd.func28, Tryd.ntmps28
    go_wp2
    refine bodyPost_ret (v := .tuple #[.bool false, .bool true]) (by simp [results, Tryd.results28, go_sem, *]) rfl ⟨rfl, ?_⟩
    rfl
  · have hb : ((fun x => (nonP) x || (rngP 48 57) x)) c = false := (by decide +kernel : ∀ c, c < 256 → 123 ≤ c → c ≤ 255 → ((fun x => (nonP) x || (rngP 48 57) x)) c = false) c hc hlo hhi
    rw [hb]
    have g48 : decide ((48 : Int) ≤ (c : Int)) = true := decide_eq_true (by omega)
    have g65 : decide ((65 : Int) ≤ (c : Int)) = true := decide_eq_true (by omega)
    have g97 : decide ((97 : Int) ≤ (c : Int)) = true := decide_eq_true (by omega)
    have l57 : decide ((c : Int) ≤ 57) = false := decide_eq_false (by omega)
    have l90 : decide ((c : Int) ≤ 90) = false := decide_eq_false (by omega)
    have l122 : decide ((c : Int) ≤ 122) = false := decide_eq_false (by omega)
    clear hb hlo hhi hc
    go_enter Tryd.func28, Tryd.ntmps28
    go_wp2
    refine bodyPost_ret (v := .tuple #[.bool false, .bool true]) (by simp [results, Tryd.results28, go_sem, *]) rfl ⟨rfl, ?_⟩
    rfl
set_option maxRecDepth 100000 in
set_option maxHeartbeats 8000000 in
theorem in_alnum (c : Nat) (hc : c < 256) (s : ByteArray) (hs : s.toList = [97, 108, 110, 117, 109]) (w : World) :
    Calls Tryd.prog 28 #[.string s, .int .i64 (c : Int)] w fun e w' => e = .returned (.tuple #[.bool (((fun x => ((fun x => (rngP 48 57) x || (rngP 97 122) x)) x || (rngP 65 90) x)) c), .bool true]) ∧ w = w' := by
  have t0 : (s.toList == [97, 108, 112, 104, 97]) = false := by rw [hs]; rfl
  have t1 : (s.toList == [100, 105, 103, 105, 116]) = false := by rw [hs]; rfl
  have t2 : (s.toList == [97, 108, 110, 117, 109]) = true := by rw [hs]; rfl
  clear hs
  rcases (by omega : (0 ≤ c ∧ c ≤ 47) ∨ (48 ≤ c ∧ c ≤ 57) ∨ (58 ≤ c ∧ c ≤ 64) ∨ (65 ≤ c ∧ c ≤ 90) ∨ (91 ≤ c ∧ c ≤ 96) ∨ (97 ≤ c ∧ c ≤ 122) ∨ (123 ≤ c ∧ c ≤ 255)) with ⟨hlo, hhi⟩ | ⟨hlo, hhi⟩ | ⟨hlo, hhi⟩ | ⟨hlo, hhi⟩ | ⟨hlo, hhi⟩ | ⟨hlo, hhi⟩ | ⟨hlo, hhi⟩
  · have hb : ((fun x => ((fun x => (rngP 48 57) x || (rngP 97 122) x)) x || (rngP 65 90) x)) c = false := (by decide +kernel : ∀ c, c < 256 → 0 ≤ c → c ≤ 47 → ((fun x => ((fun x => (rngP 48 57) x || (rngP 97 122) x)) x || (rngP 65 90) x)) c = false) c hc hlo hhi
    rw [hb]
    have g48 : decide ((48 : Int) ≤ (c : Int)) = false := decide_eq_false (by omega)
    have g65 : decide ((65 : Int) ≤ (c : Int)) = false := decide_eq_false (by omega)
    have g97 : decide ((97 : Int) ≤ (c : Int)) = false := decide_eq_false (by omega)
    have l57 : decide ((c : Int) ≤ 57) = true := decide_eq_true (by omega)
    have l90 : decide ((c : Int) ≤ 90) = true := decide_eq_true (by omega)
    have l122 : decide ((c : Int) ≤ 122) = true := decide_eq_true (by omega)
    clear hb hlo hhi hc
    go_enter Tryd.func28, Tryd.ntmps28
    go_wp2
    refine bodyPost_ret (v := .tuple #[.bool false, .bool true]) (by simp [results, Tryd.results28, go_sem, *]) rfl ⟨rfl, ?_⟩
    rfl
  · have hb : ((fun x => ((fun x => (rngP 48 57) x || (rngP 97 122) x)) x || (rngP 65 90) x)) c = true := (by decide +kernel : ∀ c, c < 256 → 48 ≤ c → c ≤ 57 → ((fun x => ((fun x => (rngP 48 57) x || (rngP 97 122) x)) x || (rngP 65 90) x)) c = true) c hc hlo hhi
    rw [hb]
    have g48 : decide ((48 : Int) ≤ (c : Int)) = true := decide_eq_true (by omega)
    have g65 : decide ((65 : Int) ≤ (c : Int)) = false := decide_eq_false (by omega)
    have g97 : decide ((97 : Int) ≤ (c : Int)) = false := decide_eq_false (by omega)
    have l57 : decide ((c : Int) ≤ 57) = true := decide_eq_true (by omega)
    have l90 : decide ((c : Int) ≤ 90) = true := decide_eq_true (by omega)
    have l122 : decide ((c : Int) ≤ 122) = true := decide_eq_true (by omega)
    clear hb hlo hhi hc
    go_enter Tryd.func28, Tryd.ntmps28
    go_wp2
    refine bodyPost_ret (v := .tuple #[.bool true, .bool true]) (by simp [results, Tryd.results28, go_sem, *]) rfl ⟨rfl, ?_⟩
    rfl
  · have hb : ((fun x => ((fun x => (rngP 48 57) x || (rngP 97 122) x)) x || (rngP 65 90) x)) c = false := (by decide +kernel : ∀ c, c < 256 → 58 ≤ c → c ≤ 64 → ((fun x => ((fun x => (rngP 48 57) x || (rngP 97 122) x)) x || (rngP 65 90) x)) c = false) c hc hlo hhi
    rw [hb]
    have g48 : decide ((48 : Int) ≤ (c : Int)) = true := decide_eq_true (by omega)
    have g65 : decide ((65 : Int) ≤ (c : Int)) = false := decide_eq_false (by omega)
    have g97 : decide ((97 : Int) ≤ (c : Int)) = false := decide_eq_false (by omega)
    have l57 : decide ((c : Int) ≤ 57) = false := decide_eq_false (by omega)
    have l90 : decide ((c : Int) ≤ 90) = true := decide_eq_true (by omega)
    have l122 : decide ((c : Int) ≤ 122) = true := decide_eq_true (by omega)
    clear hb hlo hhi hc
    go_enter Tryd.func28, Tryd.ntmps28
    go_wp2
    refine bodyPost_ret (v := .tuple #[.bool false, .bool true]) (by simp [results, Tryd.results28, go_sem, *]) rfl ⟨rfl, ?_⟩
    rfl
  · have hb : ((fun x => ((fun x => (rngP 48 57) x || (rngP 97 122) x)) x || (rngP 65 90) x)) c = true := (by decide +kernel : ∀ c, c < 256 → 65 ≤ c → c ≤ 90 → ((fun x => ((fun x => (rngP 48 57) x || (rngP 97 122) x)) x || (rngP 65 90) x)) c = true) c hc hlo hhi
    rw [hb]
    have g48 : decide ((48 : Int) ≤ (c : Int)) = true := decide_eq_true (by omega)
    have g65 : decide ((65 : Int) ≤ (c : Int)) = true := decide_eq_true (by omega)
    have g97 : decide ((97 : Int) ≤ (c : Int)) = false := decide_eq_false (by omega)
    have l57 : decide ((c : Int) ≤ 57) = false := decide_eq_false (by omega)
    have l90 : decide ((c : Int) ≤ 90) = true := decide_eq_true (by omega)
    have l122 : decide ((c : Int) ≤ 122) = true := decide_eq_true (by omega)
    clear hb hlo hhi hc
    go_enter Tryd.func28, Tryd.ntmps28
    go_wp2
    refine bodyPost_ret (v := .tuple #[.bool true, .bool true]) (by simp [results, Tryd.results28, go_sem, *]) rfl ⟨rfl, ?_⟩
    rfl
  · have hb : ((fun x => ((fun x => (rngP 48 57) x || (rngP 97 122) x)) x || (rngP 65 90) x)) c = false := (by decide +kernel : ∀ c, c < 256 → 91 ≤ c → c ≤ 96 → ((fun x => ((fun x => (rngP 48 57) x || (rngP 97 122) x)) x || (rngP 65 90) x)) c = false) c hc hlo hhi
    rw [hb]
    have g48 : decide ((48 : Int) ≤ (c : Int)) = true := decide_eq_true (by omega)
    have g65 : decide ((65 : Int) ≤ (c : Int)) = true := decide_eq_true (by omega)
    have g97 : decide ((97 : Int) ≤ (c : Int)) = false := decide_eq_false (by omega)
    have l57 : decide ((c : Int) ≤ 57) = false := decide_eq_false (by omega)
    have l90 : decide ((c : Int) ≤ 90) = false := decide_eq_false (by omega)
    have l122 : decide ((c : Int) ≤ 122) = true := decide_eq_true (by omega)
    clear hb hlo hhi hc
    go_enter Tryd.func28, Tryd.ntmps28
    go_wp2
    refine bodyPost_ret (v := .tuple #[.bool false, .bool true]) (by simp [results, Tryd.results28, go_sem, *]) rfl ⟨rfl, ?_⟩
    rfl
  · have hb : ((fun x => ((fun x => (rngP 48 57) x || (rngP 97 122) x)) x || (rngP 65 90) x)) c = true := (by decide +kernel : ∀ c, c < 256 → 97 ≤ c → c ≤ 122 → ((fun x => ((fun x => (rngP 48 57) x || (rngP 97 122) x)) x || (rngP 65 90) x)) c = true) c hc hlo hhi
    rw [hb]
    have g48 : decide ((48 : Int) ≤ (c : Int)) = true := decide_eq_true (by omega)
    have g65 : decide ((65 : Int) ≤ (c : Int)) = true := decide_eq_true (by omega)
    have g97 : decide ((97 : Int) ≤ (c : Int)) = true := decide_eq_true (by omega)
    have l57 : decide ((c : Int) ≤ 57) = false := decide_eq_false (by omega)
    have l90 : decide ((c : Int) ≤ 90) = false := decide_eq_false (by omega)
    have l122 : decide ((c : Int) ≤ 122) = true := decide_eq_true (by omega)
    clear hb hlo hhi hc
    go_enter Tryd.func28, Tryd.ntmps28
    go_wp2
    refine bodyPost_ret (v := .tuple #[.bool true, .bool true]) (by simp [results, Tryd.results28, go_sem, *]) rfl ⟨rfl, ?_⟩
    rfl
  · have hb : ((fun x => ((fun x => (rngP 48 57) x || (rngP 97 122) x)) x || (rngP 65 90) x)) c = false := (by decide +kernel : ∀ c, c < 256 → 123 ≤ c → c ≤ 255 → ((fun x => ((fun x => (rngP 48 57) x || (rngP 97 122) x)) x || (rngP 65 90) x)) c = false) c hc hlo hhi
    rw [hb]
    have g48 : decide ((48 : Int) ≤ (c : Int)) = true := decide_eq_true (by omega)
    have g65 : decide ((65 : Int) ≤ (c : Int)) = true := decide_eq_true (by omega)
    have g97 : decide ((97 : Int) ≤ (c : Int)) = true := decide_eq_true (by omega)
    have l57 : decide ((c : Int) ≤ 57) = false := decide_eq_false (by omega)
    have l90 : decide ((c : Int) ≤ 90) = false := decide_eq_false (by omega)
    have l122 : decide ((c : Int) ≤ 122) = false := decide_eq_false (by omega)
    clear hb hlo hhi hc
    go_enter Tryd.func28, Tryd.ntmps28
    go_wp2
    refine bodyPost_ret (v := .tuple #[.bool false, .bool true]) (by simp [results, Tryd.results28, go_sem, *]) rfl ⟨rfl, ?_⟩
    rfl
end Go.Proofs.YtfmekmbdienbjaaDoor
