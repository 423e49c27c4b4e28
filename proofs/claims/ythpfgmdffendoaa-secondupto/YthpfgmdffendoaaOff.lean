/- My own text. Walks: offsetOf, isOtherMember, done, isUnderWay. -/
import Derived.Test.YthpfgmdffendoaaReads
namespace Go.Proofs.Ythpfgmdffendoaa
set_option linter.unusedVariables false
set_option linter.unusedSimpArgs false
open Go.RowKit

set_option maxHeartbeats 800000 in
theorem offsetOf_any {w : World} {v : Value} {l : List Rec} (h : w.ownsRow 0 36 3 v l.length (recCells l)) (hl : l.length ≤ 1000) (p s : Int) :
    Calls Try.prog 32 #[v, .int .i64 p, .int .i64 s] w fun e w' => e = .returned (.int .i64 (offsetOf l p s)) ∧ Below w.heap.size w w' := by
  obtain ⟨ao, cap, rfl, hcap, _, hpos⟩ := ownsRow_shape h
  have H : Hid (w.ownsRow 0 36 3 (.slice ao l.length cap) l.length (recCells l)) := h
  clear h
  go_enter Try.func32, Try.ntmps32
  go_wp2
  go_loopw [11] (fun i wr => ∃ k : Nat, k ≤ l.length ∧ i = .int .i64 k ∧ (∀ j r, j < k → l[j]? = some r → ¬ (r.p = p ∧ r.s = s)) ∧ Below w.heap.size w wr)
    (fun i _ => l.length - (intOf i).toNat)
  case atStart => exact ⟨0, Nat.zero_le _, rfl, fun j r hj => by omega, Below.refl _ _⟩
  case round =>
    obtain ⟨k, hk, rfl, hno, hbel⟩ := hrel
    have HN : Hid (∀ j r, j < k → l[j]? = some r → ¬ (r.p = p ∧ r.s = s)) := hno
    have HB : Hid (Below w.heap.size w wr) := hbel
    clear hno hbel
    by_cases hlt : k < l.length
    · obtain ⟨g, rfl⟩ := hpos (by omega)
      have hr : l[k]? = some l[k] := by simp [hlt]
      have h1 := rec_cells (w := wr) (ownsRow_same H.out fun g' _ hg' => HB.out.block g' hg') k l[k] hr
      obtain ⟨c1, c2, c3⟩ := h1
      generalize hx : l[k] = x at hr c1 c2 c3
      have HR : Hid (l[k]? = some x) := hr
      clear hr hx hpos
      by_cases e1 : x.p = p
      · by_cases e2 : x.s = s
        · have b1 : (x.p == p) = true := by simpa using e1
          have b2 : (x.s == s) = true := by simpa using e2
          have HF : Hid (offsetOf l p s = k) := offsetOf_at l p s k x HN.out HR.out ⟨e1, e2⟩
          clear e1 e2
          go_wp2
          go_ret
          exact ⟨ret_int HF.out.symm, HB.out.alloc HB.out.size _⟩
        · have b1 : (x.p == p) = true := by simpa using e1
          have b2 : (x.s == s) = false := by simpa using e2
          go_wp2
          go_roundw
          case rel =>
            refine ⟨k + 1, by omega, by go_num, fun j r hj hjr => ?_, HB.out.alloc HB.out.size _⟩
            by_cases e : j = k
            · subst e; have := HR.out; rw [this] at hjr; simp at hjr; subst hjr; exact fun ⟨_, e⟩ => e2 e
            · exact HN.out j r (by omega) hjr
          case measure => simp [intOf]; omega
      · have b1 : (x.p == p) = false := by simpa using e1
        go_wp2
        go_roundw
        case rel =>
          refine ⟨k + 1, by omega, by go_num, fun j r hj hjr => ?_, HB.out.alloc HB.out.size _⟩
          by_cases e : j = k
          · subst e; have := HR.out; rw [this] at hjr; simp at hjr; subst hjr; exact fun ⟨e, _⟩ => e1 e
          · exact HN.out j r (by omega) hjr
        case measure => simp [intOf]; omega
    · have HF : Hid (offsetOf l p s = -1) := offsetOf_none l p s (fun j r hj => HN.out j r (by omega))
      go_wp2
      go_ret
      exact ⟨ret_int HF.out.symm, HB.out⟩

section
variable {w : World} {S : Nat → Prop} {b : Nat} {c : Clu} {lv : Nat → Value} {ev uv : Value} {mv : List (Msg × Value)}

set_option maxHeartbeats 800000 in
theorem isOther_any (h : Rep w S b c lv ev uv mv) (hok : Ok c) (k j : Nat) (hk : k < 5) (hj : j < 5) :
    Calls Try.prog 53 #[.pointer (some ⟨b, 0, none⟩), .int .i64 k, .int .i64 j] w fun e w' => e = .returned (.bool (isOther c k j)) ∧ w' = w := by
  have hf := h.cFol k hk
  have he := h.cEps
  have hlen := hok.eps
  obtain ⟨ao, cap, rfl, hcap, _, hpos⟩ := ownsRow_shape h.eps
  have HO : Hid (w.ownsRow 0 98 5 (.slice ao c.epochs.length cap) c.epochs.length (epCells c.epochs)) := h.eps
  clear h hok
  by_cases e1 : j = k
  · have HF : Hid (isOther c k j = false) := by show isOther c k j = false; simp [isOther, e1]
    have b1 : ((j : Int) == (k : Int)) = true := by simp [e1]
    clear e1
    go_enter Try.func53, Try.ntmps53
    go_wp2
    go_ret
    exact ⟨ret_bool HF.out.symm, rfl⟩
  have b1 : ((j : Int) == (k : Int)) = false := by simp; omega
  by_cases e2 : (c.nodes k).follows < 1
  · have HF : Hid (isOther c k j = false) := by show isOther c k j = false; simp [isOther, e2]
    clear e1
    go_enter Try.func53, Try.ntmps53
    go_wp2
    go_ret
    exact ⟨ret_bool HF.out.symm, rfl⟩
  by_cases e3 : (c.epochs.length : Int) < (c.nodes k).follows
  · have HF : Hid (isOther c k j = false) := by show isOther c k j = false; simp [isOther, e3]
    clear e1
    go_enter Try.func53, Try.ntmps53
    go_wp2
    go_ret
    exact ⟨ret_bool HF.out.symm, rfl⟩
  obtain ⟨m, hm⟩ : ∃ m : Nat, (c.nodes k).follows = m + 1 := ⟨((c.nodes k).follows - 1).toNat, by omega⟩
  have hml : m < c.epochs.length := by omega
  obtain ⟨g, rfl⟩ := hpos (by omega)
  have hc := ep_cells HO.out m c.epochs[m] (by simp [hml]) j hj
  have HF : Hid (isOther c k j = c.epochs[m] j) := by
    show isOther c k j = c.epochs[m] j
    have : ¬ (j = k ∨ (m : Int) + 1 < 1 ∨ (c.epochs.length : Int) < m + 1) := by omega
    simp only [isOther, hm, this, if_false]
    simp [hml]
  generalize c.epochs[m] j = x at hc HF
  rw [hm] at hf
  clear e1 e2 e3 hm hpos
  go_enter Try.func53, Try.ntmps53
  go_wp2
  go_ret
  exact ⟨ret_bool HF.out.symm, rfl⟩

set_option maxHeartbeats 800000 in
theorem isUnder_any (h : Rep w S b c lv ev uv mv) (i : Int) :
    Calls Try.prog 37 #[.pointer (some ⟨b, 0, none⟩), .int .i64 i] w fun e w' => e = .returned (.bool (underB c i)) ∧ w' = w := by
  have hw := h.cWay
  obtain ⟨ao, cap, rfl, hcap, _, hpos⟩ := ownsRow_shape h.way
  have hl := h.ways_len
  rw [hl] at hw
  clear h hl
  by_cases e1 : 0 ≤ i <;> by_cases e2 : i < c.ways.length
  all_goals
    go_enter Try.func37, Try.ntmps37
    go_wp2
    go_ret
    exact ⟨ret_bool (by simp [underB, e1, e2]), rfl⟩

theorem idx5 (v0 v1 v2 v3 v4 : Value) (w : World) :
    (Instr.index 77 (.agg #[v0, v1, v2, v3, v4]) (.int .i64 0)).run Try.prog w = .ok v0 w ∧
    (Instr.index 77 (.agg #[v0, v1, v2, v3, v4]) (.int .i64 1)).run Try.prog w = .ok v1 w ∧
    (Instr.index 77 (.agg #[v0, v1, v2, v3, v4]) (.int .i64 2)).run Try.prog w = .ok v2 w ∧
    (Instr.index 77 (.agg #[v0, v1, v2, v3, v4]) (.int .i64 3)).run Try.prog w = .ok v3 w ∧
    (Instr.index 77 (.agg #[v0, v1, v2, v3, v4]) (.int .i64 4)).run Try.prog w = .ok v4 w :=
  ⟨by kernel_rfl, by kernel_rfl, by kernel_rfl, by kernel_rfl, by kernel_rfl⟩

set_option maxHeartbeats 800000 in
set_option maxRecDepth 100000 in
theorem done_any (h : Rep w S b c lv ev uv mv) (hok : Ok c) (k : Nat) (hk : k < 5) :
    Calls Try.prog 33 #[.pointer (some ⟨b, 0, none⟩), .int .i64 k] w fun e w' => e = .returned (.int .i64 (done c k)) ∧ w' = w := by
  have hl := h.cLog k hk
  have hkn : ∀ j, j < 5 → w.cell? ⟨b, k * 10 + 5 + j, none⟩ = some (.int .i64 ((c.nodes k).known j)) := fun j hj => h.cKno k j hk hj
  have k0 := hkn 0 (by omega)
  have k1 := hkn 1 (by omega)
  have k2 := hkn 2 (by omega)
  have k3 := hkn 3 (by omega)
  have k4 := hkn 4 (by omega)
  obtain ⟨i0, i1, i2, i3, i4⟩ := idx5 (.int .i64 ((c.nodes k).known 0)) (.int .i64 ((c.nodes k).known 1)) (.int .i64 ((c.nodes k).known 2)) (.int .i64 ((c.nodes k).known 3)) (.int .i64 ((c.nodes k).known 4)) w
  obtain ⟨ao, cap, hlv, hcap, _, hpos⟩ := ownsRow_shape (h.logs k hk)
  have hlen := hok.log k hk
  rw [hlv] at hl
  have H : Hid (Rep w S b c lv ev uv mv) := h
  clear h hkn hpos hlv
  have HO : Hid (Ok c) := hok
  clear hok
  go_enter Try.func33, Try.ntmps33
  go_wp2
  go_loop [5, 23] (fun d i => ∃ j : Nat, j ≤ 5 ∧ i = .int .i64 j ∧ d = .int .i64 (doneTo c k j)) (fun _ i => 5 - (intOf i).toNat)
  case atStart => exact ⟨0, Nat.zero_le _, rfl, rfl⟩
  case round =>
    obtain ⟨j, hj5, rfl, rfl⟩ := hrel
    by_cases hj : j < 5
    · have HS : Hid (doneTo c k (j + 1) = if (c.nodes k).known j < doneTo c k j ∧ isOther c k j = true then (c.nodes k).known j else doneTo c k j) := rfl
      generalize doneTo c k j = d at HS
      by_cases hlt : (c.nodes k).known j < d
      · cases hoth : isOther c k j
        all_goals
          have HS' : Hid (doneTo c k (j + 1) = if isOther c k j = true then (c.nodes k).known j else d) := by show doneTo c k (j + 1) = _; rw [HS.out]; simp [hlt]
          rw [hoth] at HS'
          clear HS
          match j, hj with
          | 0, _ | 1, _ | 2, _ | 3, _ | 4, _ =>
            go_wp2_with (go_at_call 53; refine (isOther_any H.out HO.out k _ hk (by decide)).mono ?_; rintro e w' ⟨rfl, rfl⟩)
            go_round
            case rel => exact ⟨_, by decide, rfl, congrArg (Value.int .i64) HS'.out.symm⟩
            case measure => simp [intOf]
      · have HS' : Hid (doneTo c k (j + 1) = d) := by show doneTo c k (j + 1) = _; rw [HS.out]; simp [hlt]
        clear HS
        match j, hj with
        | 0, _ | 1, _ | 2, _ | 3, _ | 4, _ =>
          go_wp2_with fail
          go_round
          case rel => exact ⟨_, by decide, rfl, congrArg (Value.int .i64) HS'.out.symm⟩
          case measure => simp [intOf]
    · have : j = 5 := by omega
      subst this
      go_wp2
      go_ret
      exact ⟨rfl, rfl⟩
end
end Go.Proofs.Ythpfgmdffendoaa
