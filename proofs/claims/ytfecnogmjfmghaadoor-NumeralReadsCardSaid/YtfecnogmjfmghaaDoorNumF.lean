/- The contracts of join, bytes.TrimLeft at "0", and bytes.Equal. -/
import Derived.Test.YtfecnogmjfmghaaDoorNumE
import Derived.Laws.BytesArg
namespace Go.Proofs.YtfecnogmjfmghaaDoor
set_option linter.unusedSimpArgs false
set_option linter.unusedVariables false
set_option linter.unnecessarySimpa false
open Go.RowKit

theorem allD.take {l : List UInt8} (h : allD l) (k : Nat) : allD (l.take k) := fun c hc => h c (List.mem_of_mem_take hc)
theorem allD.drop {l : List UInt8} (h : allD l) (k : Nat) : allD (l.drop k) := fun c hc => h c (List.mem_of_mem_drop hc)
theorem allD.app {a b : List UInt8} (h : allD a) (k : allD b) : allD (a ++ b) := fun c hc => (List.mem_append.1 hc).elim (h c) (k c)
theorem allD.getD {l : List UInt8} (h : allD l) {k : Nat} (hk : k < l.length) : isDgt (l.getD k 0).toNat := by
  rw [List.getD_eq_getElem?_getD, List.getElem?_eq_getElem hk]; exact h _ (List.getElem_mem hk)
theorem valU_take {l : List UInt8} {k : Nat} (hk : k < l.length) : valU (l.take (k + 1)) = valU (l.take k) * 10 + ((l.getD k 0).toNat - 48) := by
  rw [take_u8 l hk, valU_append]; simp [valU, valF]

theorem join_u {v : Value} {l : List UInt8} {w : World} (h : BS w v l) (hl : l.length ≤ 18) (hd : allD l) :
    Calls Tryd.prog 45 #[v] w fun e w' => e = .returned (.int .u64 ((valU l : Nat) : Int)) ∧ w = w' := by
  obtain ⟨p, c, rfl, hlc, hcm, h⟩ := h
  have H := Lib.hid h; clear h
  have HD := Lib.hid hd; clear hd
  go_enter Tryd.func45, Tryd.ntmps45
  go_wp2
  go_loop [3, 8] (fun n i => ∃ (k V : Nat), k ≤ l.length ∧ i = .int .i64 (k : Int) ∧ n = .int .u64 (V : Int) ∧ Hid (V = valU (l.take k))) (fun _ i => l.length - (intOf i).toNat)
  case atStart => exact ⟨0, 0, by omega, rfl, rfl, (by show _ = _; simp [valU, valF])⟩
  case round =>
    obtain ⟨k, V, hk, rfl, rfl, hV⟩ := hrel
    by_cases hlt : k < l.length
    · obtain ⟨b, off, rfl, hbb, hcs⟩ := H.out (by rintro rfl; simp at hlt)
      have hcell : w.cell? ⟨b, off + k, none⟩ = some (bv (l.getD k 0)) := hcs k hlt
      have hlt' : (k : Int) < (l.length : Int) := by omega
      have hge : (0 : Int) ≤ (k : Int) := by omega
      have hx := HD.out.getD hlt
      have HT := Lib.hid (valU_take hlt)
      have hVb : V ≤ 1000000000000000000 := by
        rw [hV.out]
        have h1 := valU_lt _ (HD.out.take k)
        rw [List.length_take, Nat.min_eq_left (by omega)] at h1
        have : 10 ^ k ≤ 10 ^ 18 := Nat.pow_le_pow_right (by omega) (by omega)
        omega
      have HVb := Lib.hid hVb; clear hVb
      unfold isDgt at hx
      unfold bv at hcell
      clear hcs
      generalize (l.getD k 0).toNat = x at *
      have hx1 : (48 : Int) ≤ (x : Int) := by omega
      have hx2 : (x : Int) ≤ 57 := by omega
      have hV1 : (V : Int) ≤ 1000000000000000000 := by have := HVb.out; omega
      have hV0 : (0 : Int) ≤ (V : Int) := by omega
      go_wp2
      go_round
      case rel =>
        refine ⟨k + 1, V * 10 + (x - 48), by omega, by go_num, by go_num, ?_⟩
        show _ = _
        rw [HT.out, hV.out]
      case measure => simp [intOf]; omega
    · have hkl : k = l.length := by omega
      subst hkl
      have hV' : Hid (valU l = V) := by show _ = _; rw [hV.out, List.take_of_length_le (Nat.le_refl _)]
      clear hV
      go_wp2
      go_ret
      exact ⟨by rw [hV'.out]; rfl, rfl⟩

/-- Where a slice begins once j bytes are cut off. -/
def subP (p : Option Addr) (c j : Nat) : Option Addr := if c = j then p else p.map (fun a => a.add j)
theorem subP_0 (p : Option Addr) (c : Nat) : subP p c 0 = p := by
  unfold subP; split
  · rfl
  · cases p with
    | none => rfl
    | some a => cases a; simp [Addr.add]
theorem subP_some {b o c j : Nat} (h : j < c) : subP (some ⟨b, o, none⟩) c j = some ⟨b, o + j, none⟩ := by
  unfold subP; rw [if_neg (by omega)]; simp [add_lit']
theorem U8s.sub {w : World} {p : Option Addr} {c : Nat} {l : List UInt8} (h : U8s w p l) (hlc : l.length ≤ c) {j : Nat} (hj : j ≤ l.length) : U8s w (subP p c j) (l.drop j) := by
  intro hn
  have hjl : j < l.length := by
    rcases Nat.lt_or_ge j l.length with h1 | h1
    · exact h1
    · exact absurd (List.drop_of_length_le h1) hn
  obtain ⟨b, o, rfl, hb, hcs⟩ := h (by rintro rfl; simp at hjl)
  refine ⟨b, o + j, subP_some (by omega), hb, fun k hk => ?_⟩
  rw [List.length_drop] at hk
  rw [List.getD_eq_getElem?_getD, List.getElem?_drop, ← List.getD_eq_getElem?_getD, Nat.add_assoc]
  exact hcs (j + k) (by omega)
theorem run_tail1 (b o m c : Nat) (hm : m + 1 ≤ c) (w : World) :
    (Instr.slice 22 (.slice (some ⟨b, o, none⟩) (m + 1) c) (some (.int .i64 1)) none none).run Tryd.prog w = .ok (.slice (subP (some ⟨b, o, none⟩) c 1) m (c - 1)) w := by
  have := run_sub_from (some ⟨b, o, none⟩) (m + 1) c 1 (by omega) w
  unfold subV at this
  simpa [subP] using this
def lenV : Value → Nat | .slice _ n _ => n | _ => 0
theorem lead_cons48 {x : UInt8} (h : x.toNat = 48) (l : List UInt8) : lead (x :: l) = lead l := by
  obtain rfl : x = 48 := UInt8.toNat_inj.1 h
  simp [lead]
theorem lead_cons {x : UInt8} (h : x.toNat ≠ 48) (l : List UInt8) : lead (x :: l) = x :: l := by
  have : ¬ x = 48 := by rintro rfl; exact h rfl
  simp [lead, this]

/-- Whatever world v reads as l in, v' reads as l' there. -/
def Sub8 (v : Value) (l : List UInt8) (v' : Value) (l' : List UInt8) : Prop := ∀ W, BS W v l → BS W v' l'
theorem BS.tail1 {w : World} {p : Option Addr} {c : Nat} {x : UInt8} {r : List UInt8} (h : BS w (.slice p (r.length + 1) c) (x :: r)) : BS w (.slice (subP p c 1) r.length (c - 1)) r := by
  obtain ⟨p', c', e, h1, h2, h3⟩ := h
  cases e
  refine ⟨_, _, rfl, by simp at h1; omega, by omega, ?_⟩
  have := h3.sub (j := 1) h1 (by simp)
  simpa using this

set_option maxHeartbeats 1000000 in
theorem trimB_u {v : Value} {l : List UInt8} {w : World} (h : BS w v l) :
    Calls Tryd.prog 62 #[v, .int .u8 48] w fun e w' => ∃ v', e = .returned v' ∧ Sub8 v l v' (lead l) ∧ w = w' := by
  have H := Lib.hid h; clear h
  go_enter Tryd.func62, Tryd.ntmps62
  go_wp2
  go_loop [0] (fun u => ∃ r : List UInt8, BS w u r ∧ Sub8 v l u r ∧ Hid (lead r = lead l)) (fun u => lenV u)
  case atStart => exact ⟨l, H.out, fun _ h => h, rfl⟩
  case round =>
    obtain ⟨r, ⟨p, c, rfl, hrc, hcm, hU⟩, hS8, hr⟩ := hrel
    have HS8 := Lib.hid hS8; clear hS8
    cases r with
    | nil =>
      have t0 : decide ((0 : Int) < (([] : List UInt8).length : Int)) = false := by simp
      have e0 : Hid (lead l = []) := by show _ = _; rw [← hr.out]; rfl
      clear hr
      simp only [List.length_nil] at *
      go_wp2
      go_ret
      exact ⟨_, rfl, by rw [e0.out]; exact fun W _ => BS.nil W, rfl⟩
    | cons x r =>
      have HU := Lib.hid hU
      obtain ⟨b, o, rfl, hb, hcs⟩ := hU (by simp)
      have hcell : w.cell? ⟨b, o, none⟩ = some (.int .u8 ((x.toNat : Nat) : Int)) := hcs 0 (by simp)
      clear hcs
      have hrc' : r.length + 1 ≤ c := hrc
      simp only [List.length_cons]
      have HV : Hid (BS w (.slice (subP (some ⟨b, o, none⟩) c 1) r.length (c - 1)) r) := BS.tail1 ⟨_, _, rfl, hrc, hcm, HU.out⟩
      have HW : Hid (Sub8 v l (.slice (subP (some ⟨b, o, none⟩) c 1) r.length (c - 1)) r) := fun W hW => BS.tail1 (HS8.out W hW)
      have hS := fun W => run_tail1 b o r.length c (by omega) W
      have h0 : 0 < r.length + 1 := by omega
      have h00 : (0 : Int) < ((r.length + 1 : Nat) : Int) := by omega
      by_cases h48 : x.toNat = 48
      · have hr' : Hid (lead r = lead l) := by show _ = _; rw [← hr.out, lead_cons48 h48]
        have t1 : ((x.toNat : Int) == 48) = true := by rw [h48]; rfl
        clear hr h48 HU hrc HS8
        generalize x.toNat = n at *
        generalize subP (some ⟨b, o, none⟩) c 1 = p' at *
        go_wp2
        go_round
        case rel => exact ⟨r, HV.out, HW.out, hr'⟩
        case measure => simp [lenV]
      · have e1 : Hid (lead l = x :: r) := by show _ = _; rw [← hr.out, lead_cons h48]
        have t1 : ((x.toNat : Int) == 48) = false := by rw [beq_eq_false_iff_ne]; omega
        have t2 : (((r.length + 1 : Nat) : Int) == 0) = false := by rw [beq_eq_false_iff_ne]; omega
        clear hr h48 HU hrc
        generalize hn : x.toNat = n at *
        clear hn
        go_wp2
        go_ret
        exact ⟨_, rfl, by rw [e1.out]; exact HS8.out, rfl⟩

set_option maxRecDepth 100000 in
theorem trim_u {v : Value} {l : List UInt8} {w : World} (h : BS w v l) :
    Calls Tryd.prog 44 #[v, .string ⟨#[48]⟩] w fun e w' => ∃ v', e = .returned v' ∧ Sub8 v l v' (lead l) ∧ w = w' := by
  have C := fun W => Lib.hid (fun (hW : w = W) => trimB_u (hW ▸ h))
  by_cases hn : l = []
  · subst hn
    obtain ⟨p, c, rfl, hlc, hcm, hU⟩ := h
    clear C hU
    simp only [List.length_nil] at *
    go_enter Tryd.func44, Tryd.ntmps44
    go_wp2
    go_ret
    exact ⟨_, rfl, fun W _ => BS.nil W, rfl⟩
  · obtain ⟨p, c, rfl, hlc, hcm, hU⟩ := h
    have h0 : 0 < l.length := List.length_pos_iff.2 hn
    have t0 : ((l.length : Int) == 0) = false := by rw [beq_eq_false_iff_ne]; omega
    clear hU hn
    go_enter Tryd.func44, Tryd.ntmps44
    go_wp2_with (go_at_call 62; refine ((C w).out rfl).mono ?_; rintro e w' ⟨v', rfl, hv', rfl⟩)
    go_ret
    exact ⟨_, rfl, hv', rfl⟩

set_option maxRecDepth 100000 in
/-- 'string(b)'. -/
theorem run_str {v : Value} {l : List UInt8} {w : World} (h : BS w v l) : (convert 22 9 v).run Tryd.prog w = .ok (.string ⟨l.toArray⟩) w := by
  obtain ⟨p, c, rfl, hlc, hcm, hU⟩ := h
  by_cases hn : l = []
  · subst hn
    show (convert 22 9 (.slice p 0 c)).run Tryd.prog w = _
    rw [run_convert_bytes_string (P := Tryd.prog) w 22 9 5 p 0 c Tryd.underlying22 Tryd.underlying5 Tryd.underlying9]
    cases p <;> simp [Conv.bytesToString, loadCells]
    all_goals rfl
  · obtain ⟨b, o, rfl, hb, hcs⟩ := hU hn
    have := run_convert_bytes_arg (P := Tryd.prog) w 22 5 Tryd.underlying22 Tryd.underlying5 b o l.length c (l.map fun x => ((x.toNat : Nat) : Int)) (by simp)
      (fun i hi => by
        rw [hcs i hi, List.getD_eq_getElem?_getD, List.getD_eq_getElem?_getD, List.getElem?_map, List.getElem?_eq_getElem hi]; rfl) 9 Tryd.underlying9
    rw [this]
    congr 2
    unfold strOfNums
    rw [List.map_map]
    congr 1
    congr 1
    conv => rhs; rw [← List.map_id l]
    congr 1
    funext x
    simp
set_option maxRecDepth 100000 in
theorem equal_u {v v' : Value} {l l' : List UInt8} {w : World} (h : BS w v l) (h' : BS w v' l') :
    Calls Tryd.prog 27 #[v, v'] w fun e w' => e = .returned (.bool (l == l')) ∧ w = w' := by
  have g := run_str h
  have g' := run_str h'
  clear h h'
  go_enter Tryd.func27, Tryd.ntmps27
  go_wp2
  go_ret
  exact ⟨rfl, rfl⟩
end Go.Proofs.YtfecnogmjfmghaaDoor
