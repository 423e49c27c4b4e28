/- My own text: several texts in one. -/
import Derived.Test.YthpjcmilfipbaaaR1
import Derived.Test.YthpjcmilfipbaaaR7
namespace Go.Proofs.Ythpjcmilfipbaaa
set_option linter.unusedVariables false
set_option linter.unusedSimpArgs false
open Go.RowKit
set_option maxHeartbeats 800000 in
theorem lpick_any (c n : Int) (hc : -9223372036854775808 ≤ c) (hc' : c ≤ 9223372036854775807) (hn : 1 ≤ n) (w : World) :
    Calls Try.prog 38 #[.int .i64 c, .int .i64 n] w fun e w' => e = .returned (.int .i64 (pickN c n)) ∧ w' = w := by
  unfold pickN
  by_cases h0 : c < 0
  · rw [if_pos h0]
    go_enter Try.func38, Try.ntmps38
    go_wp2
    go_ret
    exact ⟨by simp, rfl⟩
  · rw [if_neg h0]
    have e : c.tmod n = c % n := Int.tmod_eq_emod_of_nonneg (by omega)
    go_enter Try.func38, Try.ntmps38
    go_wp2
    go_ret
    exact ⟨by simp [e], rfl⟩
/-- Is the step passed over? -/
def over (kind stage : Int) : Bool := if kind = 12 ∨ kind = 13 ∨ kind = 14 then decide (stage < 3) else (kind == 10 || kind == 11) && decide (stage < 2)
set_option maxHeartbeats 800000 in
theorem lpassed_any (kind stage : Int) (w : World) :
    Calls Try.prog 35 #[.int .i64 kind, .int .i64 stage] w fun e w' => e = .returned (.bool (over kind stage)) ∧ w' = w := by
  by_cases h12 : kind = 12
  · subst h12
    go_enter Try.func35, Try.ntmps35
    go_wp2
    go_ret
    exact ⟨ret_boolR (by simp [over]), rfl⟩
  by_cases h13 : kind = 13
  · subst h13
    go_enter Try.func35, Try.ntmps35
    go_wp2
    go_ret
    exact ⟨ret_boolR (by simp [over]), rfl⟩
  by_cases h14 : kind = 14
  · subst h14
    go_enter Try.func35, Try.ntmps35
    go_wp2
    go_ret
    exact ⟨ret_boolR (by simp [over]), rfl⟩
  have b12 : (kind == 12) = false := by simp [h12]
  have b13 : (kind == 13) = false := by simp [h13]
  have b14 : (kind == 14) = false := by simp [h14]
  have HO : Hid (over kind stage = ((kind == 10 || kind == 11) && decide (stage < 2))) := by show over kind stage = _; simp [over, h12, h13, h14]
  clear h12 h13 h14
  cases b10 : (kind == 10)
  · cases b11 : (kind == 11)
    · go_enter Try.func35, Try.ntmps35
      go_wp2
      go_ret
      exact ⟨ret_boolR (by rw [HO.out, b10, b11]; simp), rfl⟩
    · go_enter Try.func35, Try.ntmps35
      go_wp2
      go_ret
      exact ⟨ret_boolR (by rw [HO.out, b10, b11]; simp), rfl⟩
  · go_enter Try.func35, Try.ntmps35
    go_wp2
    go_ret
    exact ⟨ret_boolR (by rw [HO.out, b10]; simp), rfl⟩
end Go.Proofs.Ythpjcmilfipbaaa
