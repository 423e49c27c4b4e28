/- My own text. Walks: the program's functions that only read. -/
import Derived.Test.YthpfgmdffendoaaRows
import Derived.WalkKit
import Derived.WalkSpells
import Derived.WalkLawsBesides
import Derived.Deep.RegionHeld3
import Derived.Deep.QuietTactic
import Derived.BigQuiet
import Derived.Deep.RegionLaw
import Derived.Deep.AppendLies
import Derived.Test.YthpfgmdffendoaaMem
namespace Go.Proofs.Ythpfgmdffendoaa
set_option linter.unusedVariables false
set_option linter.unusedSimpArgs false
open Go.RowKit

set_option maxHeartbeats 400000 in
theorem pick_any (c n : Int) (hc : -9223372036854775808 ≤ c) (hc' : c ≤ 9223372036854775807) (hn : 1 ≤ n) (w : World) :
    Calls Try.prog 13 #[.int .i64 c, .int .i64 n] w fun e w' => e = .returned (.int .i64 (pickN c n)) ∧ w' = w := by
  unfold pickN
  by_cases h : c < 0
  · rw [if_pos h]
    go_enter Try.func13, Try.ntmps13
    go_wp2
    go_ret
    exact ⟨by simp, rfl⟩
  · rw [if_neg h]
    have e : c.tmod n = c % n := Int.tmod_eq_emod_of_nonneg (by omega)
    go_enter Try.func13, Try.ntmps13
    go_wp2
    go_ret
    exact ⟨by simp [e], rfl⟩

set_option maxHeartbeats 400000 in
theorem isNode_any (c : Int) (w : World) :
    Calls Try.prog 40 #[.int .i64 c] w fun e w' => e = .returned (.bool (nodeB c)) ∧ w' = w := by
  unfold nodeB
  by_cases h : 0 ≤ c <;> by_cases h' : c < 5
  all_goals
    go_enter Try.func40, Try.ntmps40
    go_wp2
    go_ret
    exact ⟨by simp [h, h'], rfl⟩

theorem ret_bool {a b : Bool} (h : a = b) : Ending.returned (.bool a) = .returned (.bool b) := by rw [h]
theorem ret_int {k : IntKind} {a b : Int} (h : a = b) : Ending.returned (.int k a) = .returned (.int k b) := by rw [h]

set_option maxHeartbeats 800000 in
theorem isRecord_any (p s v : Int) (w : World) :
    Calls Try.prog 52 #[.int .i64 p, .int .i64 s, .int .i64 v] w fun e w' => e = .returned (.bool (recB p s v)) ∧ w' = w := by
  go_enter Try.func52, Try.ntmps52
  go_wp2
  all_goals
    go_ret
    exact ⟨ret_bool (by unfold recB; rw [Bool.eq_iff_iff]; simp; omega), rfl⟩

section
variable {w : World} {S : Nat → Prop} {b : Nat} {c : Clu} {lv : Nat → Value} {ev uv : Value} {mv : List (Msg × Value)}

set_option maxHeartbeats 400000 in
theorem refNode_any (h : Rep w S b c lv ev uv mv) (node : Int) :
    Calls Try.prog 36 #[.pointer (some ⟨b, 0, none⟩), .int .i64 node] w fun e w' => e = .returned (.int .i64 (refNode c node)) ∧ w' = w := by
  by_cases hn : 0 ≤ node ∧ node < 5
  · obtain ⟨h0, h5⟩ := hn
    obtain ⟨k, rfl⟩ := Int.eq_ofNat_of_zero_le h0
    have hk : k < 5 := by omega
    have hb : nodeB (k : Int) = true := by simp [nodeB]; omega
    have hc := h.cUp k hk
    have e : refNode c (k : Int) = if (c.nodes k).up then 0 else 3 := by simp [refNode, hb]
    rw [e]; clear e h
    cases hup : (c.nodes k).up <;> rw [hup] at hc
    all_goals
      go_enter Try.func36, Try.ntmps36
      go_wp2_with (go_at_call 40; refine (isNode_any _ _).mono ?_; rintro e w' ⟨rfl, rfl⟩)
      go_ret
      exact ⟨by simp, rfl⟩
  · have hb : nodeB node = false := by simp [nodeB]; omega
    have e : refNode c node = 2 := by simp [refNode, hb]
    rw [e]; clear e h
    go_enter Try.func36, Try.ntmps36
    go_wp2_with (go_at_call 40; refine (isNode_any _ _).mono ?_; rintro e w' ⟨rfl, rfl⟩)
    all_goals
      go_ret
      exact ⟨by simp, rfl⟩

theorem refNode_zero {c : Clu} {node : Int} (h : refNode c node = 0) : ∃ k : Nat, node = k ∧ k < 5 ∧ (c.nodes k).up = true := by
  unfold refNode nodeB at h
  split at h
  · rename_i hb
    simp at hb
    obtain ⟨k, rfl⟩ := Int.eq_ofNat_of_zero_le hb.1
    refine ⟨k, rfl, by omega, ?_⟩
    simp at h; exact h
  · simp at h

set_option maxHeartbeats 400000 in
theorem refWrite_any (h : Rep w S b c lv ev uv mv) (node p s v : Int) :
    Calls Try.prog 31 #[.pointer (some ⟨b, 0, none⟩), .int .i64 node, .int .i64 p, .int .i64 s, .int .i64 v] w fun e w' => e = .returned (.int .i64 (refWrite c node p s v)) ∧ w' = w := by
  by_cases hr : refNode c node = 0
  · have hr' : (refNode c node != 0) = false := by simp [hr]
    obtain ⟨k, rfl, hk, hup⟩ := refNode_zero hr
    have hc := h.cRol k hk
    have e : refWrite c (k : Int) p s v = if recB p s v then (if (c.nodes k).role = 3 then 0 else 6) else 5 := by simp [refWrite, hr]
    rw [e]
    have H : Hid (Rep w S b c lv ev uv mv) := h
    have HR : Hid (refNode c (k : Int) = 0) := hr
    clear e h hr
    cases hb : recB p s v
    · go_enter Try.func31, Try.ntmps31
      go_wp2_with (first
        | (go_at_call 36; refine (refNode_any H.out _).mono ?_; rintro e w' ⟨rfl, rfl⟩)
        | (go_at_call 52; refine (isRecord_any _ _ _ _).mono ?_; rintro e w' ⟨rfl, rfl⟩))
      go_ret
      exact ⟨by simp, rfl⟩
    cases hro : ((c.nodes k).role != 3)
    all_goals
      have hro' := hro
      simp at hro'
      rw [if_pos rfl]
      go_enter Try.func31, Try.ntmps31
      go_wp2_with (first
        | (go_at_call 36; refine (refNode_any H.out _).mono ?_; rintro e w' ⟨rfl, rfl⟩)
        | (go_at_call 52; refine (isRecord_any _ _ _ _).mono ?_; rintro e w' ⟨rfl, rfl⟩))
      go_ret
      exact ⟨by simp [hro'], rfl⟩
  · have hr' : (refNode c node != 0) = true := by simp [hr]
    have e : refWrite c node p s v = refNode c node := by simp [refWrite, hr]
    rw [e]
    have H : Hid (Rep w S b c lv ev uv mv) := h
    clear e h hr
    go_enter Try.func31, Try.ntmps31
    go_wp2_with (first
      | (go_at_call 36; refine (refNode_any H.out _).mono ?_; rintro e w' ⟨rfl, rfl⟩))
    go_ret
    exact ⟨rfl, rfl⟩
end
end Go.Proofs.Ythpfgmdffendoaa
