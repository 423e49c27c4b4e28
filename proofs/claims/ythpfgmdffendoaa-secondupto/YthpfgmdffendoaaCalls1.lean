/- My own text. Walks: Produce, Fetch. -/
import Derived.Test.YthpfgmdffendoaaWrite
namespace Go.Proofs.Ythpfgmdffendoaa
set_option linter.unusedVariables false
set_option linter.unusedSimpArgs false
open Go.RowKit

theorem refWrite_zero {c : Clu} {node p s v : Int} (h : refWrite c node p s v = 0) : ∃ k : Nat, node = k ∧ k < 5 ∧ (c.nodes k).role = 3 ∧ recB p s v = true := by
  unfold refWrite at h
  split at h
  · rename_i h1; exact absurd h h1
  · rename_i h1
    obtain ⟨k, rfl, hk, _⟩ := refNode_zero (Classical.not_not.1 h1)
    split at h
    · rename_i hb
      split at h
      · rename_i hr; exact ⟨k, rfl, hk, by simpa using hr, hb⟩
      · simp at h
    · simp at h
theorem ret3 {k1 k2 : IntKind} {a a' : Int} {x x' : Bool} {e e' : Int} (h1 : a = a') (h2 : x = x') (h3 : e = e') :
    Ending.returned (.tuple #[.int k1 a, .bool x, .int k2 e]) = .returned (.tuple #[.int k1 a', .bool x', .int k2 e']) := by rw [h1, h2, h3]

theorem write_ok {c : Clu} (h : Ok c) (k : Nat) (r : Rec) (hl : (c.nodes k).log.length < 60) : Ok (write c k r) :=
  writeTo_ok (putLog_ok h k _ (by simp; omega)) k _ 5

section
variable {w : World} {S : Nat → Prop} {b : Nat} {c : Clu} {lv : Nat → Value} {ev uv : Value} {mv : List (Msg × Value)}

set_option maxHeartbeats 3200000 in
set_option maxRecDepth 100000 in
theorem produce_any (h : Rep w S b c lv ev uv mv) (hok : Ok c) (node p s v : Int) :
    Calls Try.prog 14 #[.pointer (some ⟨b, 0, none⟩), .int .i64 node, .int .i64 p, .int .i64 s, .int .i64 v] w fun e w' =>
      e = .returned (.tuple #[.int .i64 (produce c node p s v).2.1, .bool (produce c node p s v).2.2.1, .int .i64 (produce c node p s v).2.2.2]) ∧
      (∃ lv' uv' mv', Rep w' (Ext S w) b (produce c node p s v).1 lv' ev uv' mv') ∧ Fr S w w' := by
  have H : Hid (Rep w S b c lv ev uv mv) := h
  have HO : Hid (Ok c) := hok
  by_cases hr : refWrite c node p s v = 0
  rotate_left
  · have HF : Hid (produce c node p s v = (c, 0, false, refWrite c node p s v)) := by show produce c node p s v = _; simp [produce, hr]
    have hb : (refWrite c node p s v != 0) = true := by simp [hr]
    clear h hok hr
    go_enter Try.func14, Try.ntmps14
    go_wp2_with (first | (go_at_call 31; refine (refWrite_any H.out _ _ _ _).mono ?_; rintro e w' ⟨rfl, rfl⟩))
    go_ret3
    rw [HF.out]
    exact ⟨rfl, ⟨_, _, _, H.out.mono fun _ _ e => Or.inl e⟩, Fr.refl _ _⟩
  obtain ⟨k, rfl, hk, hrole, hrec⟩ := refWrite_zero hr
  have hb : (refWrite c (k : Int) p s v != 0) = false := by simp [hr]
  have hl := h.cLog k hk
  have hlen := hok.log k hk
  have hown : Hid (w.ownsRow 0 36 3 (lv k) (c.nodes k).log.length (recCells (c.nodes k).log)) := h.logs k hk
  obtain ⟨ao, cap, hlv, hcap, _, hpos⟩ := ownsRow_shape hown.out
  have HLV : Hid (lv k = .slice ao (c.nodes k).log.length cap) := hlv
  rw [hlv] at hl
  have hob := offsetOf_bd (c.nodes k).log p s
  have hbw := h.lt
  have hrec' : 1 ≤ s ∧ s ≤ 99 := by simp [recB] at hrec; omega
  obtain ⟨hs1, hs2⟩ := hrec'
  clear h hok hrole hrec hpos hcap
  have HW : Hid (refWrite c (k : Int) p s v = 0) := hr
  clear hr
  have HN : Hid (w.ownsRow 0 36 3 (.slice ao (c.nodes k).log.length cap) (c.nodes k).log.length (recCells (c.nodes k).log)) := by rw [← hlv]; exact hown.out
  clear hlv hown
  by_cases h1 : 0 ≤ offsetOf (c.nodes k).log p s
  · cases h2 : decide (offsetOf (c.nodes k).log p s < done c k)
    · have HF : Hid (produce c k p s v = (lack c k, offsetOf (c.nodes k).log p s, false, 0)) := by
        show produce c k p s v = _
        simp at h2
        have : ¬ offsetOf (c.nodes k).log p s < done c k := by omega
        simp [produce, HW.out, h1, this]
      have hh : Hid (¬ offsetOf (c.nodes k).log p s < done c k) := by show ¬ offsetOf (c.nodes k).log p s < done c k; simpa using h2
      go_enter Try.func14, Try.ntmps14
      go_wp2_with (first | (go_at_call 31; refine (refWrite_any H.out _ _ _ _).mono ?_; rintro e w' ⟨rfl, rfl⟩))
      refine (offsetOf_any HN.out (by omega) p s).mono ?_
      rintro e w1 ⟨rfl, hbel⟩
      have HR1 : Hid (Rep w1 S b c lv ev uv mv) := H.out.below hbel
      have HB : Hid (Below w'.heap.size w' w1) := hbel
      clear hbel
      go_wp2_with (first | (go_at_call 33; refine (done_any HR1.out HO.out k hk).mono ?_; rintro e w2 ⟨rfl, rfl⟩))
      refine (lack_any HR1.out HO.out k hk).mono ?_
      rintro e w3 ⟨rfl, ⟨uv', mv', hR⟩, hFr⟩
      have HR2 : Hid (Rep w3 (Ext S w2) b (lack c k) lv ev uv' mv') := hR
      have HFr : Hid (Fr S w2 w3) := hFr
      clear hR hFr
      go_wp2
      go_ret3
      rw [HF.out]
      exact ⟨ret3 rfl rfl rfl, ⟨_, _, _, HR2.out.mono fun i _ e => orR e fun e => Nat.le_trans HB.out.size e⟩, (Fr.below HB.out).then HFr.out⟩
    · have HF : Hid (produce c k p s v = (c, offsetOf (c.nodes k).log p s, true, 0)) := by
        show produce c k p s v = _
        simp at h2
        simp [produce, HW.out, h1, h2]
      have hh : Hid (offsetOf (c.nodes k).log p s < done c k) := by show offsetOf (c.nodes k).log p s < done c k; simpa using h2
      go_enter Try.func14, Try.ntmps14
      go_wp2_with (first | (go_at_call 31; refine (refWrite_any H.out _ _ _ _).mono ?_; rintro e w' ⟨rfl, rfl⟩))
      refine (offsetOf_any HN.out (by omega) p s).mono ?_
      rintro e w1 ⟨rfl, hbel⟩
      have HR1 : Hid (Rep w1 S b c lv ev uv mv) := H.out.below hbel
      have HB : Hid (Below w'.heap.size w' w1) := hbel
      clear hbel
      go_wp2_with (first | (go_at_call 33; refine (done_any HR1.out HO.out k hk).mono ?_; rintro e w2 ⟨rfl, rfl⟩))
      go_ret3
      rw [HF.out]
      exact ⟨ret3 rfl rfl rfl, ⟨_, _, _, HR1.out.mono fun i _ e => Or.inl e⟩, Fr.below HB.out⟩
  have h1' : offsetOf (c.nodes k).log p s < 0 := by omega
  have HNF : Hid (¬ 0 ≤ offsetOf (c.nodes k).log p s) := h1
  clear h1 hob
  by_cases hs' : 1 < s
  · have hob2 := offsetOf_bd (c.nodes k).log p (s - 1)
    by_cases h4 : offsetOf (c.nodes k).log p (s - 1) < 0
    · have HF : Hid (produce c k p s v = (c, 0, false, 7)) := by
        show produce c k p s v = _
        have := HNF.out
        simp [produce, HW.out, this, hs', h4]
      go_enter Try.func14, Try.ntmps14
      go_wp2_with (first | (go_at_call 31; refine (refWrite_any H.out _ _ _ _).mono ?_; rintro e w' ⟨rfl, rfl⟩))
      refine (offsetOf_any HN.out (by omega) p s).mono ?_
      rintro e w1 ⟨rfl, hbel⟩
      have HR1 : Hid (Rep w1 S b c lv ev uv mv) := H.out.below hbel
      have HB : Hid (Below w'.heap.size w' w1) := hbel
      have HN1 : Hid (w1.ownsRow 0 36 3 (.slice ao (c.nodes k).log.length cap) (c.nodes k).log.length (recCells (c.nodes k).log)) := ownsRow_same HN.out fun g _ hg => hbel.block g hg
      clear hbel
      go_wp2_with fail
      refine (offsetOf_any HN1.out (by omega) p (s - 1)).mono ?_
      rintro e w2 ⟨rfl, hbel⟩
      have HR2 : Hid (Rep w2 S b c lv ev uv mv) := HR1.out.below hbel
      have HB2 : Hid (Below w1.heap.size w1 w2) := hbel
      clear hbel
      go_wp2
      go_ret3
      rw [HF.out]
      exact ⟨rfl, ⟨_, _, _, HR2.out.mono fun i _ e => Or.inl e⟩, ((Fr.below HB.out).then (Fr.below HB2.out))⟩
    · have h4' : 0 ≤ offsetOf (c.nodes k).log p (s - 1) := by omega
      by_cases hfull : 60 ≤ (c.nodes k).log.length
      · have HF : Hid (produce c k p s v = (c, 0, false, 8)) := by
          show produce c k p s v = _
          have := HNF.out
          simp [produce, HW.out, this, h4, hfull]
        have hfi : (60 : Int) ≤ ((c.nodes k).log.length : Int) := by omega
        go_enter Try.func14, Try.ntmps14
        go_wp2_with (first | (go_at_call 31; refine (refWrite_any H.out _ _ _ _).mono ?_; rintro e w' ⟨rfl, rfl⟩))
        refine (offsetOf_any HN.out (by omega) p s).mono ?_
        rintro e w1 ⟨rfl, hbel⟩
        have HR1 : Hid (Rep w1 S b c lv ev uv mv) := H.out.below hbel
        have HB : Hid (Below w'.heap.size w' w1) := hbel
        have HN1 : Hid (w1.ownsRow 0 36 3 (.slice ao (c.nodes k).log.length cap) (c.nodes k).log.length (recCells (c.nodes k).log)) := ownsRow_same HN.out fun g _ hg => hbel.block g hg
        clear hbel
        go_wp2_with fail
        refine (offsetOf_any HN1.out (by omega) p (s - 1)).mono ?_
        rintro e w2 ⟨rfl, hbel⟩
        have HR2 : Hid (Rep w2 S b c lv ev uv mv) := HR1.out.below hbel
        have HB2 : Hid (Below w1.heap.size w1 w2) := hbel
        clear hbel
        go_wp2
        go_ret3
        rw [HF.out]
        exact ⟨rfl, ⟨_, _, _, HR2.out.mono fun i _ e => Or.inl e⟩, ((Fr.below HB.out).then (Fr.below HB2.out))⟩
      · have HF : Hid (produce c k p s v = (write c k ⟨p, s, v⟩, ((c.nodes k).log.length : Int), decide (((c.nodes k).log.length : Int) < done (write c k ⟨p, s, v⟩) k), 0)) := by
          show produce c k p s v = _
          have := HNF.out
          simp [produce, HW.out, this, h4, hfull]
        have hfi : ((c.nodes k).log.length : Int) < 60 := by omega
        go_enter Try.func14, Try.ntmps14
        go_wp2_with (first | (go_at_call 31; refine (refWrite_any H.out _ _ _ _).mono ?_; rintro e w' ⟨rfl, rfl⟩))
        refine (offsetOf_any HN.out (by omega) p s).mono ?_
        rintro e w1 ⟨rfl, hbel⟩
        have HR1 : Hid (Rep w1 S b c lv ev uv mv) := H.out.below hbel
        have HB : Hid (Below w'.heap.size w' w1) := hbel
        have HN1 : Hid (w1.ownsRow 0 36 3 (.slice ao (c.nodes k).log.length cap) (c.nodes k).log.length (recCells (c.nodes k).log)) := ownsRow_same HN.out fun g _ hg => hbel.block g hg
        clear hbel
        go_wp2_with fail
        refine (offsetOf_any HN1.out (by omega) p (s - 1)).mono ?_
        rintro e w2 ⟨rfl, hbel⟩
        have HR2 : Hid (Rep w2 S b c lv ev uv mv) := HR1.out.below hbel
        have HB2 : Hid (Below w1.heap.size w1 w2) := hbel
        clear hbel
        go_wp2_with fail
        refine (write_any HR2.out HO.out k hk ⟨p, s, v⟩ (by omega)).mono ?_
        rintro e w3 ⟨rfl, ⟨lv', uv', mv', hR⟩, hFr⟩
        have HR3 : Hid (Rep w3 (Ext S w2) b (write c k ⟨p, s, v⟩) lv' ev uv' mv') := hR
        have HFr : Hid (Fr S w2 w3) := hFr
        have HO3 : Hid (Ok (write c k ⟨p, s, v⟩)) := write_ok HO.out k _ (by omega)
        clear hR hFr
        go_wp2_with (first | (go_at_call 33; refine (done_any HR3.out HO3.out k hk).mono ?_; rintro e w4 ⟨rfl, rfl⟩))
        go_ret3
        rw [HF.out]
        exact ⟨rfl, ⟨_, _, _, HR3.out.mono fun i _ e => orR e fun e => Nat.le_trans (Nat.le_trans HB.out.size HB2.out.size) e⟩, ((Fr.below HB.out).then (Fr.below HB2.out)).then HFr.out⟩
  · by_cases hfull : 60 ≤ (c.nodes k).log.length
    · have HF : Hid (produce c k p s v = (c, 0, false, 8)) := by
        show produce c k p s v = _
        have := HNF.out
        simp [produce, HW.out, this, hs', hfull]
      have hfi : (60 : Int) ≤ ((c.nodes k).log.length : Int) := by omega
      go_enter Try.func14, Try.ntmps14
      go_wp2_with (first | (go_at_call 31; refine (refWrite_any H.out _ _ _ _).mono ?_; rintro e w' ⟨rfl, rfl⟩))
      refine (offsetOf_any HN.out (by omega) p s).mono ?_
      rintro e w1 ⟨rfl, hbel⟩
      have HR1 : Hid (Rep w1 S b c lv ev uv mv) := H.out.below hbel
      have HB : Hid (Below w'.heap.size w' w1) := hbel
      have HN1 : Hid (w1.ownsRow 0 36 3 (.slice ao (c.nodes k).log.length cap) (c.nodes k).log.length (recCells (c.nodes k).log)) := ownsRow_same HN.out fun g _ hg => hbel.block g hg
      clear hbel
      go_wp2
      go_ret3
      rw [HF.out]
      exact ⟨rfl, ⟨_, _, _, HR1.out.mono fun i _ e => Or.inl e⟩, (Fr.below HB.out)⟩
    · have HF : Hid (produce c k p s v = (write c k ⟨p, s, v⟩, ((c.nodes k).log.length : Int), decide (((c.nodes k).log.length : Int) < done (write c k ⟨p, s, v⟩) k), 0)) := by
        show produce c k p s v = _
        have := HNF.out
        simp [produce, HW.out, this, hs', hfull]
      have hfi : ((c.nodes k).log.length : Int) < 60 := by omega
      go_enter Try.func14, Try.ntmps14
      go_wp2_with (first | (go_at_call 31; refine (refWrite_any H.out _ _ _ _).mono ?_; rintro e w' ⟨rfl, rfl⟩))
      refine (offsetOf_any HN.out (by omega) p s).mono ?_
      rintro e w1 ⟨rfl, hbel⟩
      have HR1 : Hid (Rep w1 S b c lv ev uv mv) := H.out.below hbel
      have HB : Hid (Below w'.heap.size w' w1) := hbel
      have HN1 : Hid (w1.ownsRow 0 36 3 (.slice ao (c.nodes k).log.length cap) (c.nodes k).log.length (recCells (c.nodes k).log)) := ownsRow_same HN.out fun g _ hg => hbel.block g hg
      clear hbel
      go_wp2_with fail
      refine (write_any HR1.out HO.out k hk ⟨p, s, v⟩ (by omega)).mono ?_
      rintro e w3 ⟨rfl, ⟨lv', uv', mv', hR⟩, hFr⟩
      have HR3 : Hid (Rep w3 (Ext S w1) b (write c k ⟨p, s, v⟩) lv' ev uv' mv') := hR
      have HFr : Hid (Fr S w1 w3) := hFr
      have HO3 : Hid (Ok (write c k ⟨p, s, v⟩)) := write_ok HO.out k _ (by omega)
      clear hR hFr
      go_wp2_with (first | (go_at_call 33; refine (done_any HR3.out HO3.out k hk).mono ?_; rintro e w4 ⟨rfl, rfl⟩))
      go_ret3
      rw [HF.out]
      exact ⟨rfl, ⟨_, _, _, HR3.out.mono fun i _ e => orR e fun e => Nat.le_trans (HB.out.size) e⟩, (Fr.below HB.out).then HFr.out⟩
end
end Go.Proofs.Ythpfgmdffendoaa
