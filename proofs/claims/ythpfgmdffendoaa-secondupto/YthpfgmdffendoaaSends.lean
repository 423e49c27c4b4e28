/- My own text. Walks: sendAppend, sendFirstLacked, sendWhatIsLacked. -/
import Derived.Test.YthpfgmdffendoaaSend
namespace Go.Proofs.Ythpfgmdffendoaa
set_option linter.unusedVariables false
set_option linter.unusedSimpArgs false
open Go.RowKit

theorem send_nodes (c : Clu) (m : Msg) : (send c m).nodes = c.nodes ∧ (send c m).epochs = c.epochs := by unfold send; split <;> exact ⟨rfl, rfl⟩
theorem send_ok {c : Clu} (h : Ok c) (m : Msg) : Ok (send c m) := by
  refine ⟨?_, ?_, ?_⟩
  · rw [(send_nodes c m).1]; exact h.log
  · unfold send
    split
    · exact h.ways
    · simp; omega
  · rw [(send_nodes c m).2]; exact h.eps
theorem sendAppend_nodes (c : Clu) (k j : Nat) (a : Int) : (sendAppend c k j a).nodes = c.nodes ∧ (sendAppend c k j a).epochs = c.epochs := by
  unfold sendAppend; split
  · exact ⟨rfl, rfl⟩
  · exact send_nodes _ _
theorem sendAppend_ok {c : Clu} (h : Ok c) (k j : Nat) (a : Int) : Ok (sendAppend c k j a) := by
  unfold sendAppend; split
  · exact h
  · exact send_ok h _
theorem lackTo_nodes (c : Clu) (k : Nat) : ∀ j, (lackTo c k j).nodes = c.nodes ∧ (lackTo c k j).epochs = c.epochs
  | 0 => ⟨rfl, rfl⟩
  | j + 1 => by
    have ih := lackTo_nodes c k j
    unfold lackTo
    split
    · rw [sendFirst, (sendAppend_nodes _ _ _ _).1, (sendAppend_nodes _ _ _ _).2]; exact ih
    · exact ih
theorem lackTo_ok {c : Clu} (h : Ok c) (k : Nat) : ∀ j, Ok (lackTo c k j)
  | 0 => h
  | j + 1 => by
    have ih := lackTo_ok h k j
    unfold lackTo
    split
    · exact sendAppend_ok ih _ _ _
    · exact ih

theorem ownsRow_rec (w : World) (x : Rec) : (w.alloc (.cells #[.int .i64 x.p, .int .i64 x.s, .int .i64 x.v] 36)).ownsRow 0 36 3 (.slice (some ⟨w.heap.size, 0, none⟩) 1 1) [x].length (recCells [x]) :=
  ⟨rfl, .inr ⟨w.heap.size, 1, _, rfl, Nat.zero_le _, heap_alloc_new w _, Nat.le_refl _, by unfold maxLen; omega, rfl, rfl⟩⟩

section
variable {w : World} {S : Nat → Prop} {b : Nat} {c : Clu} {lv : Nat → Value} {ev uv : Value} {mv : List (Msg × Value)}

set_option maxHeartbeats 1600000 in
set_option maxRecDepth 100000 in
theorem sendAppend_any (h : Rep w S b c lv ev uv mv) (hok : Ok c) (k j : Nat) (hk : k < 5) (at_ : Int) :
    Calls Try.prog 55 #[.pointer (some ⟨b, 0, none⟩), .int .i64 k, .int .i64 j, .int .i64 at_] w fun e w' =>
      e = .returned (.tuple #[]) ∧ (∃ uv' mv', Rep w' (Ext S w) b (sendAppend c k j at_) lv ev uv' mv') ∧ Fr S w w' := by
  have hl := h.cLog k hk
  have hf := h.cFol k hk
  have hlen := hok.log k hk
  have hb := h.lt
  have hown := h.logs k hk
  obtain ⟨ao, cap, hlv, hcap, _, hpos⟩ := ownsRow_shape hown
  rw [hlv] at hl hown
  have H : Hid (Rep w S b c lv ev uv mv) := h
  have HO : Hid (Ok c) := hok
  have HL : Hid (lv k = .slice ao (c.nodes k).log.length cap) := hlv
  clear h hok hlv
  by_cases h1 : at_ < 0
  · have HF : Hid (sendAppend c k j at_ = c) := by show sendAppend c k j at_ = c; simp [sendAppend, h1]
    clear hown
    go_enter Try.func55, Try.ntmps55
    go_wp2
    exact bodyPost_ret (results_none rfl _ _ _) rfl ⟨rfl, ⟨_, _, by rw [HF.out]; exact H.out.mono fun k _ hk => Or.inl hk⟩, Fr.refl _ _⟩
  by_cases h2 : ((c.nodes k).log.length : Int) ≤ at_
  · have HF : Hid (sendAppend c k j at_ = c) := by show sendAppend c k j at_ = c; simp [sendAppend, h2]
    clear hown
    go_enter Try.func55, Try.ntmps55
    go_wp2
    exact bodyPost_ret (results_none rfl _ _ _) rfl ⟨rfl, ⟨_, _, by rw [HF.out]; exact H.out.mono fun k _ hk => Or.inl hk⟩, Fr.refl _ _⟩
  obtain ⟨a, rfl⟩ := Int.eq_ofNat_of_zero_le (Int.not_lt.1 h1)
  have ha : a < (c.nodes k).log.length := by omega
  obtain ⟨g, rfl⟩ := hpos (by omega)
  have hr : (c.nodes k).log[a]? = some (c.nodes k).log[a] := by simp [ha]
  obtain ⟨c1, c2, c3⟩ := rec_cells hown a _ hr
  have HT : Hid (((c.nodes k).log.drop a).take 1 = [(c.nodes k).log[a]]) := by
    show ((c.nodes k).log.drop a).take 1 = [(c.nodes k).log[a]]
    rw [List.drop_eq_getElem_cons ha]; rfl
  generalize (c.nodes k).log[a] = x at c1 c2 c3 hr HT
  have HF : Hid (sendAppend c k j a = send c { kind := 8, frm := k, to := j, epoch := (c.nodes k).follows, n := a, recs := [x] }) := by
    show sendAppend c k j a = _
    have : ¬ ((a : Int) < 0 ∨ ((c.nodes k).log.length : Int) ≤ a) := by omega
    rw [sendAppend, if_neg this]
    simp only [Int.toNat_natCast, HT.out]
  clear hown hr
  go_enter Try.func55, Try.ntmps55
  go_wp2_with fail
  refine (send_any ((H.out.alloc _).mono (S' := Ext S w) fun _ _ e => Or.inl e) HO.out { kind := 8, frm := k, to := j, epoch := (c.nodes k).follows, n := a, recs := [x] } _ (ownsRow_rec w x) (fun g' hg' => ?_) (fun i g' hi hg' => ?_)).mono ?_
  · simp [Value.ownBlock] at hg'; subst hg'; exact Or.inr (Nat.le_refl _)
  · simp [Value.ownBlock] at hg'; subst hg'
    intro e
    have := ownsRow_lt (H.out.logs i hi) e
    omega
  rintro e w' ⟨rfl, ⟨uv', mv', hR⟩, hFr⟩
  go_wp2
  exact bodyPost_end (results_none rfl _ _ _) rfl ⟨rfl, ⟨uv', mv', by rw [HF.out]; exact hR.mono fun i _ e => Ext.sub (by simp) i e⟩, (Fr.alloc S w _).trans hFr⟩

set_option maxHeartbeats 800000 in
theorem sendFirst_any (h : Rep w S b c lv ev uv mv) (hok : Ok c) (k j : Nat) (hk : k < 5) (hj : j < 5) :
    Calls Try.prog 54 #[.pointer (some ⟨b, 0, none⟩), .int .i64 k, .int .i64 j] w fun e w' =>
      e = .returned (.tuple #[]) ∧ (∃ uv' mv', Rep w' (Ext S w) b (sendFirst c k j) lv ev uv' mv') ∧ Fr S w w' := by
  have hkn := h.cKno k j hk hj
  have H : Hid (Rep w S b c lv ev uv mv) := h
  have HO : Hid (Ok c) := hok
  clear h hok
  go_enter Try.func54, Try.ntmps54
  go_wp2_with fail
  refine (sendAppend_any H.out HO.out k j hk _).mono ?_
  rintro e w' ⟨rfl, hR, hFr⟩
  go_wp2
  exact bodyPost_end (results_none rfl _ _ _) rfl ⟨rfl, hR, hFr⟩

set_option maxHeartbeats 1600000 in
set_option maxRecDepth 100000 in
theorem lack_any (h : Rep w S b c lv ev uv mv) (hok : Ok c) (k : Nat) (hk : k < 5) :
    Calls Try.prog 34 #[.pointer (some ⟨b, 0, none⟩), .int .i64 k] w fun e w' =>
      e = .returned (.tuple #[]) ∧ (∃ uv' mv', Rep w' (Ext S w) b (lack c k) lv ev uv' mv') ∧ Fr S w w' := by
  have H : Hid (Rep w S b c lv ev uv mv) := h
  have HO : Hid (Ok c) := hok
  clear h hok
  go_enter Try.func34, Try.ntmps34
  go_wp2
  go_loopw [5] (fun i wr => ∃ j : Nat, j ≤ 5 ∧ i = .int .i64 j ∧ (∃ uv' mv', Rep wr (Ext S w) b (lackTo c k j) lv ev uv' mv') ∧ Fr S w wr) (fun i _ => 5 - (intOf i).toNat)
  case atStart => exact ⟨0, Nat.zero_le _, rfl, ⟨_, _, H.out.mono fun _ _ e => Or.inl e⟩, Fr.refl _ _⟩
  case round =>
    obtain ⟨j, hj5, rfl, ⟨uv1, mv1, hR⟩, hFr⟩ := hrel
    have HR : Hid (Rep wr (Ext S w) b (lackTo c k j) lv ev uv1 mv1) := hR
    have HFr : Hid (Fr S w wr) := hFr
    have HO1 : Hid (Ok (lackTo c k j)) := lackTo_ok HO.out k j
    clear hR hFr
    by_cases hj : j < 5
    · cases hoth : isOther (lackTo c k j) k j
      · have HS : Hid (lackTo c k (j + 1) = lackTo c k j) := by show lackTo c k (j + 1) = _; rw [lackTo, hoth]; rfl
        go_wp2_with (first | (go_at_call 53; refine (isOther_any HR.out HO1.out k j hk hj).mono ?_; rintro e w' ⟨rfl, rfl⟩))
        go_roundw
        case rel => exact ⟨j + 1, by omega, by go_num, ⟨uv1, mv1, by rw [HS.out]; exact HR.out⟩, HFr.out⟩
        case measure => simp [intOf]; omega
      · have HS : Hid (lackTo c k (j + 1) = sendFirst (lackTo c k j) k j) := by show lackTo c k (j + 1) = _; rw [lackTo, hoth]; rfl
        go_wp2_with (first | (go_at_call 53; refine (isOther_any HR.out HO1.out k j hk hj).mono ?_; rintro e w' ⟨rfl, rfl⟩))
        refine (sendFirst_any HR.out HO1.out k j hk hj).mono ?_
        rintro e w2 ⟨rfl, ⟨uv2, mv2, hR2⟩, hFr2⟩
        have HR2 : Hid (Rep w2 (Ext (Ext S w) w') b (sendFirst (lackTo c k j) k j) lv ev uv2 mv2) := hR2
        have HFr2 : Hid (Fr (Ext S w) w' w2) := hFr2
        clear hR2 hFr2
        go_wp2
        go_roundw
        case rel => exact ⟨j + 1, by omega, by go_num, ⟨uv2, mv2, by rw [HS.out]; exact HR2.out.mono fun i _ e => Ext.sub HFr.out.size i e⟩, HFr.out.trans HFr2.out⟩
        case measure => simp [intOf]; omega
    · have : j = 5 := by omega
      subst this
      go_wp2
      exact bodyPost_end (results_none rfl _ _ _) rfl ⟨rfl, ⟨_, _, HR.out⟩, HFr.out⟩
end
end Go.Proofs.Ythpfgmdffendoaa
