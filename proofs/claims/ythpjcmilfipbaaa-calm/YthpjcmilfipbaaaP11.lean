/- My own text: several texts in one. -/
import Derived.Test.YthpjcmilfipbaaaP2
namespace Go.Proofs.Ythpjcmilfipbaaa
set_option linter.unusedVariables false
set_option linter.unusedSimpArgs false
open Go.RowKit

theorem refWrite_zero {c : Clu} {node p s v : Int} (h : refWrite c node p s v = 0) : ∃ k : Nat, node = k ∧ k < 5 ∧ (c.nodes k).role = 3 ∧ recB p s v = true := by
  unfold refWrite at h
  split at h
  · rename_i h1; exact absurd h h1
  · rename_i h1
    obtain ⟨k, rfl, hk, _⟩ := refNode_zero (Classical.not_not.1 h1)
    split at h
    · rename_i hb
      split at h
      · rename_i hr; exact ⟨k, rfl, hk, by simpa using hr, hb⟩
      · simp at h
    · simp at h
theorem ret3 {k1 k2 : IntKind} {a a' : Int} {x x' : Bool} {e e' : Int} (h1 : a = a') (h2 : x = x') (h3 : e = e') :
    Ending.returned (.tuple #[.int k1 a, .bool x, .int k2 e]) = .returned (.tuple #[.int k1 a', .bool x', .int k2 e']) := by rw [h1, h2, h3]

theorem write_ok {c : Clu} (h : Ok c) (k : Nat) (r : Rec) (hl : (c.nodes k).log.length < 60) : Ok (write c k r) :=
  writeTo_ok (putLog_ok h k _ (by simp; omega)) k _ 5

section
variable {w : World} {S : Nat → Prop} {b : Nat} {c : Clu} {lv : Nat → Value} {ev uv : Value} {mv : List (Msg × Value)}

set_option maxHeartbeats 3200000 in
set_option maxRecDepth 100000 in
theorem produce_any (h : Rep w S b c lv ev uv mv) (hok : Ok c) (node p s v : Int) :
    Calls Try.prog 18 #[.pointer (some ⟨b, 0, none⟩), .int .i64 node, .int .i64 p, .int .i64 s, .int .i64 v] w fun e w' =>
      e = .returned (.tuple #[.int .i64 (produce c node p s v).2.1, .bool (produce c node p s v).2.2.1, .int .i64 (produce c node p s v).2.2.2]) ∧
      (∃ lv' uv' mv', Rep w' (Ext S w) b (produce c node p s v).1 lv' ev uv' mv') ∧ Fr S w w' := by
  have H : Hid (Rep w S b c lv ev uv mv) := h
  have HO : Hid (Ok c) := hok
  by_cases hr : refWrite c node p s v = 0
  rotate_left
  · have HF : Hid (produce c node p s v = (c, 0, false, refWrite c node p s v)) := by show produce c node p s v = _; simp [produce, hr]
    have hb : (refWrite c node p s v != 0) = true := by simp [hr]
    clear h hok hr
    go_enter Try.func18, Try.ntmps18
    go_wp2_with (first | (go_at_call 42; refine (refWrite_any H.out _ _ _ _).mono ?_; rintro e w' ⟨rfl, rfl⟩))
    go_ret3
    rw [HF.out]
    exact ⟨rfl, ⟨_, _, _, H.out.mono fun _ _ e => Or.inl e⟩, Fr.refl _ _⟩
  obtain ⟨k, rfl, hk, hrole, hrec⟩ := refWrite_zero hr
  have hb : (refWrite c (k : Int) p s v != 0) = false := by simp [hr]
  have hl := h.cLog k hk
  have hlen := hok.log k hk
  have hown : Hid (w.ownsRow 0 36 3 (lv k) (c.nodes k).log.length (recCells (c.nodes k).log)) := h.logs k hk
  obtain ⟨ao, cap, hlv, hcap, _, hpos⟩ := ownsRow_shape hown.out
  have HLV : Hid (lv k = .slice ao (c.nodes k).log.length cap) := hlv
  rw [hlv] at hl
  have hob := offsetOf_bd (c.nodes k).log p s
  have hbw := h.lt
  have hrec' : 1 ≤ s ∧ s ≤ 99 := by simp [recB] at hrec; omega
  obtain ⟨hs1, hs2⟩ := hrec'
  clear h hok hrole hrec hpos hcap
  have HW : Hid (refWrite c (k : Int) p s v = 0) := hr
  clear hr
  have HN : Hid (w.ownsRow 0 36 3 (.slice ao (c.nodes k).log.length cap) (c.nodes k).log.length (recCells (c.nodes k).log)) := by rw [← hlv]; exact hown.out
  clear hlv hown
  by_cases h1 : 0 ≤ offsetOf (c.nodes k).log p s
  · cases h2 : decide (offsetOf (c.nodes k).log p s < done c k)
    · have HF : Hid (produce c k p s v = (lack c k, offsetOf (c.nodes k).log p s, false, 0)) := by
        show produce c k p s v = _
        simp at h2
        have : ¬ offsetOf (c.nodes k).log p s < done c k := by omega
        simp [produce, HW.out, h1, this]
      have hh : Hid (¬ offsetOf (c.nodes k).log p s < done c k) := by show ¬ offsetOf (c.nodes k).log p s < done c k; simpa using h2
      go_enter Try.func18, Try.ntmps18
      go_wp2_with (first | (go_at_call 42; refine (refWrite_any H.out _ _ _ _).mono ?_; rintro e w' ⟨rfl, rfl⟩))
      refine (offsetOf_any HN.out (by omega) p s).mono ?_
      rintro e w1 ⟨rfl, hbel⟩
      have HR1 : Hid (Rep w1 S b c lv ev uv mv) := H.out.below hbel
      have HB : Hid (Below w'.heap.size w' w1) := hbel
      clear hbel
      go_wp2_with (first | (go_at_call 44; refine (done_any HR1.out HO.out k hk).mono ?_; rintro e w2 ⟨rfl, hB2⟩; have HR2 : Hid (Rep w2 S b c lv ev uv mv) := HR1.out.below hB2; have HB2 : Hid (Below w'.heap.size w' w2) := HB.out.trans (hB2.mono HB.out.size); clear hB2))
      refine (lack_any HR2.out HO.out k hk).mono ?_
      rintro e w3 ⟨rfl, ⟨uv', mv', hR⟩, hFr⟩
      have HR3 : Hid (Rep w3 (Ext S w2) b (lack c k) lv ev uv' mv') := hR
      have HFr : Hid (Fr S w2 w3) := hFr
      clear hR hFr
      go_wp2
      go_ret3
      rw [HF.out]
      exact ⟨ret3 rfl rfl rfl, ⟨_, _, _, HR3.out.mono fun i _ e => orR e fun e => Nat.le_trans HB2.out.size e⟩, (Fr.below HB2.out).then HFr.out⟩
    · have HF : Hid (produce c k p s v = (c, offsetOf (c.nodes k).log p s, true, 0)) := by
        show produce c k p s v = _
        simp at h2
        simp [produce, HW.out, h1, h2]
      have hh : Hid (offsetOf (c.nodes k).log p s < done c k) := by show offsetOf (c.nodes k).log p s < done c k; simpa using h2
      go_enter Try.func18, Try.ntmps18
      go_wp2_with (first | (go_at_call 42; refine (refWrite_any H.out _ _ _ _).mono ?_; rintro e w' ⟨rfl, rfl⟩))
      refine (offsetOf_any HN.out (by omega) p s).mono ?_
      rintro e w1 ⟨rfl, hbel⟩
      have HR1 : Hid (Rep w1 S b c lv ev uv mv) := H.out.below hbel
      have HB : Hid (Below w'.heap.size w' w1) := hbel
      clear hbel
      go_wp2_with (first | (go_at_call 44; refine (done_any HR1.out HO.out k hk).mono ?_; rintro e w2 ⟨rfl, hB2⟩; have HR2 : Hid (Rep w2 S b c lv ev uv mv) := HR1.out.below hB2; have HB2 : Hid (Below w'.heap.size w' w2) := HB.out.trans (hB2.mono HB.out.size); clear hB2))
      go_ret3
      rw [HF.out]
      exact ⟨ret3 rfl rfl rfl, ⟨_, _, _, HR2.out.mono fun i _ e => Or.inl e⟩, Fr.below HB2.out⟩
  have h1' : offsetOf (c.nodes k).log p s < 0 := by omega
  have HNF : Hid (¬ 0 ≤ offsetOf (c.nodes k).log p s) := h1
  clear h1 hob
  by_cases hs' : 1 < s
  · have hob2 := offsetOf_bd (c.nodes k).log p (s - 1)
    by_cases h4 : offsetOf (c.nodes k).log p (s - 1) < 0
    · have HF : Hid (produce c k p s v = (c, 0, false, 7)) := by
        show produce c k p s v = _
        have := HNF.out
        simp [produce, HW.out, this, hs', h4]
      go_enter Try.func18, Try.ntmps18
      go_wp2_with (first | (go_at_call 42; refine (refWrite_any H.out _ _ _ _).mono ?_; rintro e w' ⟨rfl, rfl⟩))
      refine (offsetOf_any HN.out (by omega) p s).mono ?_
      rintro e w1 ⟨rfl, hbel⟩
      have HR1 : Hid (Rep w1 S b c lv ev uv mv) := H.out.below hbel
      have HB : Hid (Below w'.heap.size w' w1) := hbel
      have HN1 : Hid (w1.ownsRow 0 36 3 (.slice ao (c.nodes k).log.length cap) (c.nodes k).log.length (recCells (c.nodes k).log)) := ownsRow_same HN.out fun g _ hg => hbel.block g hg
      clear hbel
      go_wp2_with fail
      refine (offsetOf_any HN1.out (by omega) p (s - 1)).mono ?_
      rintro e w2 ⟨rfl, hbel⟩
      have HR2 : Hid (Rep w2 S b c lv ev uv mv) := HR1.out.below hbel
      have HB2 : Hid (Below w1.heap.size w1 w2) := hbel
      clear hbel
      go_wp2
      go_ret3
      rw [HF.out]
      exact ⟨rfl, ⟨_, _, _, HR2.out.mono fun i _ e => Or.inl e⟩, ((Fr.below HB.out).then (Fr.below HB2.out))⟩
    · have h4' : 0 ≤ offsetOf (c.nodes k).log p (s - 1) := by omega
      by_cases hfull : 60 ≤ (c.nodes k).log.length
      · have HF : Hid (produce c k p s v = (c, 0, false, 8)) := by
          show produce c k p s v = _
          have := HNF.out
          simp [produce, HW.out, this, h4, hfull]
        have hfi : (60 : Int) ≤ ((c.nodes k).log.length : Int) := by omega
        go_enter Try.func18, Try.ntmps18
        go_wp2_with (first | (go_at_call 42; refine (refWrite_any H.out _ _ _ _).mono ?_; rintro e w' ⟨rfl, rfl⟩))
        refine (offsetOf_any HN.out (by omega) p s).mono ?_
        rintro e w1 ⟨rfl, hbel⟩
        have HR1 : Hid (Rep w1 S b c lv ev uv mv) := H.out.below hbel
        have HB : Hid (Below w'.heap.size w' w1) := hbel
        have HN1 : Hid (w1.ownsRow 0 36 3 (.slice ao (c.nodes k).log.length cap) (c.nodes k).log.length (recCells (c.nodes k).log)) := ownsRow_same HN.out fun g _ hg => hbel.block g hg
        clear hbel
        go_wp2_with fail
        refine (offsetOf_any HN1.out (by omega) p (s - 1)).mono ?_
        rintro e w2 ⟨rfl, hbel⟩
        have HR2 : Hid (Rep w2 S b c lv ev uv mv) := HR1.out.below hbel
        have HB2 : Hid (Below w1.heap.size w1 w2) := hbel
        clear hbel
        go_wp2
        go_ret3
        rw [HF.out]
        exact ⟨rfl, ⟨_, _, _, HR2.out.mono fun i _ e => Or.inl e⟩, ((Fr.below HB.out).then (Fr.below HB2.out))⟩
      · have HF : Hid (produce c k p s v = (write c k ⟨p, s, v⟩, ((c.nodes k).log.length : Int), decide (((c.nodes k).log.length : Int) < done (write c k ⟨p, s, v⟩) k), 0)) := by
          show produce c k p s v = _
          have := HNF.out
          simp [produce, HW.out, this, h4, hfull]
        have hfi : ((c.nodes k).log.length : Int) < 60 := by omega
        go_enter Try.func18, Try.ntmps18
        go_wp2_with (first | (go_at_call 42; refine (refWrite_any H.out _ _ _ _).mono ?_; rintro e w' ⟨rfl, rfl⟩))
        refine (offsetOf_any HN.out (by omega) p s).mono ?_
        rintro e w1 ⟨rfl, hbel⟩
        have HR1 : Hid (Rep w1 S b c lv ev uv mv) := H.out.below hbel
        have HB : Hid (Below w'.heap.size w' w1) := hbel
        have HN1 : Hid (w1.ownsRow 0 36 3 (.slice ao (c.nodes k).log.length cap) (c.nodes k).log.length (recCells (c.nodes k).log)) := ownsRow_same HN.out fun g _ hg => hbel.block g hg
        clear hbel
        go_wp2_with fail
        refine (offsetOf_any HN1.out (by omega) p (s - 1)).mono ?_
        rintro e w2 ⟨rfl, hbel⟩
        have HR2 : Hid (Rep w2 S b c lv ev uv mv) := HR1.out.below hbel
        have HB2 : Hid (Below w1.heap.size w1 w2) := hbel
        clear hbel
        go_wp2_with fail
        refine (write_any HR2.out HO.out k hk ⟨p, s, v⟩ (by omega)).mono ?_
        rintro e w3 ⟨rfl, ⟨lv', uv', mv', hR⟩, hFr⟩
        have HR3 : Hid (Rep w3 (Ext S w2) b (write c k ⟨p, s, v⟩) lv' ev uv' mv') := hR
        have HFr : Hid (Fr S w2 w3) := hFr
        have HO3 : Hid (Ok (write c k ⟨p, s, v⟩)) := write_ok HO.out k _ (by omega)
        clear hR hFr
        go_wp2_with (first | (go_at_call 44; refine (done_any HR3.out HO3.out k hk).mono ?_; rintro e w4 ⟨rfl, hB4⟩; have HR4 := HR3.out.below hB4; have HF4 := HFr.out.then (Fr.below hB4); have HR4h : Hid (_) := HR4; have HF4h : Hid (_) := HF4; clear hB4 HR4 HF4))
        go_ret3
        rw [HF.out]
        exact ⟨rfl, ⟨_, _, _, HR4h.out.mono fun i _ e => orR e fun e => Nat.le_trans (Nat.le_trans HB.out.size HB2.out.size) e⟩, ((Fr.below HB.out).then (Fr.below HB2.out)).then HF4h.out⟩
  · by_cases hfull : 60 ≤ (c.nodes k).log.length
    · have HF : Hid (produce c k p s v = (c, 0, false, 8)) := by
        show produce c k p s v = _
        have := HNF.out
        simp [produce, HW.out, this, hs', hfull]
      have hfi : (60 : Int) ≤ ((c.nodes k).log.length : Int) := by omega
      go_enter Try.func18, Try.ntmps18
      go_wp2_with (first | (go_at_call 42; refine (refWrite_any H.out _ _ _ _).mono ?_; rintro e w' ⟨rfl, rfl⟩))
      refine (offsetOf_any HN.out (by omega) p s).mono ?_
      rintro e w1 ⟨rfl, hbel⟩
      have HR1 : Hid (Rep w1 S b c lv ev uv mv) := H.out.below hbel
      have HB : Hid (Below w'.heap.size w' w1) := hbel
      have HN1 : Hid (w1.ownsRow 0 36 3 (.slice ao (c.nodes k).log.length cap) (c.nodes k).log.length (recCells (c.nodes k).log)) := ownsRow_same HN.out fun g _ hg => hbel.block g hg
      clear hbel
      go_wp2
      go_ret3
      rw [HF.out]
      exact ⟨rfl, ⟨_, _, _, HR1.out.mono fun i _ e => Or.inl e⟩, (Fr.below HB.out)⟩
    · have HF : Hid (produce c k p s v = (write c k ⟨p, s, v⟩, ((c.nodes k).log.length : Int), decide (((c.nodes k).log.length : Int) < done (write c k ⟨p, s, v⟩) k), 0)) := by
        show produce c k p s v = _
        have := HNF.out
        simp [produce, HW.out, this, hs', hfull]
      have hfi : ((c.nodes k).log.length : Int) < 60 := by omega
      go_enter Try.func18, Try.ntmps18
      go_wp2_with (first | (go_at_call 42; refine (refWrite_any H.out _ _ _ _).mono ?_; rintro e w' ⟨rfl, rfl⟩))
      refine (offsetOf_any HN.out (by omega) p s).mono ?_
      rintro e w1 ⟨rfl, hbel⟩
      have HR1 : Hid (Rep w1 S b c lv ev uv mv) := H.out.below hbel
      have HB : Hid (Below w'.heap.size w' w1) := hbel
      have HN1 : Hid (w1.ownsRow 0 36 3 (.slice ao (c.nodes k).log.length cap) (c.nodes k).log.length (recCells (c.nodes k).log)) := ownsRow_same HN.out fun g _ hg => hbel.block g hg
      clear hbel
      go_wp2_with fail
      refine (write_any HR1.out HO.out k hk ⟨p, s, v⟩ (by omega)).mono ?_
      rintro e w3 ⟨rfl, ⟨lv', uv', mv', hR⟩, hFr⟩
      have HR3 : Hid (Rep w3 (Ext S w1) b (write c k ⟨p, s, v⟩) lv' ev uv' mv') := hR
      have HFr : Hid (Fr S w1 w3) := hFr
      have HO3 : Hid (Ok (write c k ⟨p, s, v⟩)) := write_ok HO.out k _ (by omega)
      clear hR hFr
      go_wp2_with (first | (go_at_call 44; refine (done_any HR3.out HO3.out k hk).mono ?_; rintro e w4 ⟨rfl, hB4⟩; have HR4 := HR3.out.below hB4; have HF4 := HFr.out.then (Fr.below hB4); have HR4h : Hid (_) := HR4; have HF4h : Hid (_) := HF4; clear hB4 HR4 HF4))
      go_ret3
      rw [HF.out]
      exact ⟨rfl, ⟨_, _, _, HR4h.out.mono fun i _ e => orR e fun e => Nat.le_trans (HB.out.size) e⟩, (Fr.below HB.out).then HF4h.out⟩
end
end Go.Proofs.Ythpjcmilfipbaaa

namespace Go.Proofs.Ythpjcmilfipbaaa
set_option linter.unusedVariables false
set_option linter.unusedSimpArgs false
open Go.RowKit
theorem frozen_of_row {w : World} {B : Nat} {cs : Array Value} {t : TypeId} (h : w.heap[B]? = some (.cells cs t (0, 0))) (o : Nat) : w.frozen? ⟨B, o, none⟩ = false := by simp [World.frozen?, h]
theorem heap_alloc_at {w : World} {o : Obj} {n : Nat} (h : n = w.heap.size) : (w.alloc o).heap[n]? = some o := by rw [h]; exact heap_alloc_new w o
section
variable {w : World} {S : Nat → Prop} {b : Nat} {c : Clu} {lv : Nat → Value} {ev uv : Value} {mv : List (Msg × Value)}

theorem done_bd (c : Clu) (k : Nat) : done c k ≤ (c.nodes k).log.length := by
  have : ∀ j, doneTo c k j ≤ (c.nodes k).log.length := by
    intro j
    induction j with
    | zero => exact Int.le_refl _
    | succ j ih =>
      unfold doneTo
      split
      · rename_i h; omega
      · exact ih
  exact this 5

set_option maxHeartbeats 3200000 in
set_option maxRecDepth 100000 in
theorem fetch_any (h : Rep w S b c lv ev uv mv) (hok : Ok c) (node off : Int) :
    Calls Try.prog 19 #[.pointer (some ⟨b, 0, none⟩), .int .i64 node, .int .i64 off] w fun e w' =>
      e = .returned (.tuple #[.agg #[.int .i64 (fetch c node off).1.p, .int .i64 (fetch c node off).1.s, .int .i64 (fetch c node off).1.v], .int .i64 (fetch c node off).2]) ∧ Below w.heap.size w w' := by
  have H : Hid (Rep w S b c lv ev uv mv) := h
  have HO : Hid (Ok c) := hok
  have hbw := h.lt
  by_cases hr : refNode c node = 0
  rotate_left
  · have HF : Hid (fetch c node off = (⟨0, 0, 0⟩, refNode c node)) := by show fetch c node off = _; simp [fetch, hr]
    have hb : (refNode c node != 0) = true := by simp [hr]
    clear h hok hr
    go_enter Try.func19, Try.ntmps19
    go_wp2_with (first | (go_at_call 47; refine (refNode_any (H.out.alloc _) _).mono ?_; rintro e w' ⟨rfl, rfl⟩))
    exact bodyPost_ret (v := .tuple #[.agg #[.int .i64 0, .int .i64 0, .int .i64 0], .int .i64 (refNode c node)]) (by simp [results, Try.results19, go_sem]) rfl ⟨by rw [HF.out], (Below.refl _ _).alloc (Nat.le_refl _) _⟩
  obtain ⟨k, rfl, hk, hup⟩ := refNode_zero hr
  have hb : (refNode c (k : Int) != 0) = false := by simp [hr]
  have hro := h.cRol k hk
  have hl := h.cLog k hk
  have hlen := hok.log k hk
  have hown := h.logs k hk
  obtain ⟨ao, cap, hlv, hcap, _, hpos⟩ := ownsRow_shape hown
  rw [hlv] at hl hown
  have HW : Hid (refNode c (k : Int) = 0) := hr
  have HLV : Hid (lv k = .slice ao (c.nodes k).log.length cap) := hlv
  clear h hok hr hlv hup hcap
  by_cases h1 : (c.nodes k).role = 3
  rotate_left
  · have HF : Hid (fetch c k off = (⟨0, 0, 0⟩, 6)) := by show fetch c k off = _; simp [fetch, HW.out, h1]
    have hb1 : ((c.nodes k).role != 3) = true := by simp [h1]
    clear h1 hown
    go_enter Try.func19, Try.ntmps19
    go_wp2_with (first | (go_at_call 47; refine (refNode_any (H.out.alloc _) _).mono ?_; rintro e w' ⟨rfl, rfl⟩))
    exact bodyPost_ret (v := .tuple #[.agg #[.int .i64 0, .int .i64 0, .int .i64 0], .int .i64 6]) (by simp [results, Try.results19, go_sem]) rfl ⟨by rw [HF.out], (Below.refl _ _).alloc (Nat.le_refl _) _⟩
  have HW1 : Hid ((c.nodes k).role = 3) := h1
  rw [h1] at hro
  clear h1
  by_cases h2 : off < 0
  · have HF : Hid (fetch c k off = (⟨0, 0, 0⟩, 5)) := by show fetch c k off = _; simp [fetch, HW.out, HW1.out, h2]
    clear hown
    go_enter Try.func19, Try.ntmps19
    go_wp2_with (first | (go_at_call 47; refine (refNode_any (H.out.alloc _) _).mono ?_; rintro e w' ⟨rfl, rfl⟩))
    exact bodyPost_ret (v := .tuple #[.agg #[.int .i64 0, .int .i64 0, .int .i64 0], .int .i64 5]) (by simp [results, Try.results19, go_sem]) rfl ⟨by rw [HF.out], (Below.refl _ _).alloc (Nat.le_refl _) _⟩
  by_cases h3 : done c k ≤ off
  · have HF : Hid (fetch c k off = (⟨0, 0, 0⟩, 9)) := by show fetch c k off = _; simp [fetch, HW.out, HW1.out, h2, h3]
    clear hown
    go_enter Try.func19, Try.ntmps19
    go_wp2_with (first | (go_at_call 47; refine (refNode_any (H.out.alloc _) _).mono ?_; rintro e w' ⟨rfl, rfl⟩))
    refine (done_any (H.out.alloc _) HO.out k hk).mono ?_
    rintro e w2 ⟨rfl, hB2⟩
    have r0 := cell_of_row _ _ 0 _ _ _ ((hB2.block _ (by simp)).trans (heap_alloc_new _ _))
    have r1 := cell_of_row _ _ 1 _ _ _ ((hB2.block _ (by simp)).trans (heap_alloc_new _ _))
    have r2 := cell_of_row _ _ 2 _ _ _ ((hB2.block _ (by simp)).trans (heap_alloc_new _ _))
    have z : ∀ o, w2.frozen? ⟨_, o, none⟩ = false := fun o => frozen_of_row ((hB2.block _ (by simp)).trans (heap_alloc_new _ _)) o
    have z0 := z 0; have z1 := z 1; have z2 := z 2
    have HB2 : Hid (_) := (((Below.refl _ _).alloc (Nat.le_refl _) _).trans (hB2.mono (by simp)))
    simp at r0 r1 r2
    clear hB2 z
    go_wp2
    refine bodyPost_ret (v := .tuple #[.agg #[.int .i64 0, .int .i64 0, .int .i64 0], .int .i64 9]) (by simp [results, Try.results19, go_sem, *]) rfl ⟨by rw [HF.out], ?_⟩
    exact ((HB2.out.setCell (Nat.le_refl _) _).setCell (Nat.le_refl _) _).setCell (Nat.le_refl _) _
  obtain ⟨a, rfl⟩ := Int.eq_ofNat_of_zero_le (Int.not_lt.1 h2)
  have hd := done_bd c k
  have ha : a < (c.nodes k).log.length := by omega
  obtain ⟨g, rfl⟩ := hpos (by omega)
  have hr : (c.nodes k).log[a]? = some (c.nodes k).log[a] := by simp [ha]
  obtain ⟨c1, c2, c3⟩ := rec_cells hown a _ hr
  have HF : Hid (fetch c k a = ((c.nodes k).log[a], 0)) := by
    show fetch c k a = _
    simp [fetch, HW.out, HW1.out, h3, ha]
  have hgl := ownsRow_lt hown (g := g) rfl
  generalize (c.nodes k).log[a] = x at c1 c2 c3 HF
  clear hown hr hpos
  go_enter Try.func19, Try.ntmps19
  go_wp2_with (first | (go_at_call 47; refine (refNode_any (H.out.alloc _) _).mono ?_; rintro e w' ⟨rfl, rfl⟩))
  refine (done_any (H.out.alloc _) HO.out k hk).mono ?_
  rintro e w2 ⟨rfl, hB2⟩
  have r0 := cell_of_row _ _ 0 _ _ _ ((hB2.block _ (by simp)).trans (heap_alloc_new _ _))
  have r1 := cell_of_row _ _ 1 _ _ _ ((hB2.block _ (by simp)).trans (heap_alloc_new _ _))
  have r2 := cell_of_row _ _ 2 _ _ _ ((hB2.block _ (by simp)).trans (heap_alloc_new _ _))
  have z : ∀ o, w2.frozen? ⟨_, o, none⟩ = false := fun o => frozen_of_row ((hB2.block _ (by simp)).trans (heap_alloc_new _ _)) o
  have z0 := z 0; have z1 := z 1; have z2 := z 2
  have HB2 : Hid (_) := (((Below.refl _ _).alloc (Nat.le_refl _) _).trans (hB2.mono (by simp)))
  simp at r0 r1 r2
  clear hB2 z
  have hR2 := H.out.below HB2.out
  have l2 := hR2.cLog k hk
  rw [HLV.out] at l2
  have d1 := (World.cell?_of_block (a := ⟨g, a * 3, none⟩) (HB2.out.block g hgl)).trans c1
  have d2 := (World.cell?_of_block (a := ⟨g, a * 3 + 1, none⟩) (HB2.out.block g hgl)).trans c2
  have d3 := (World.cell?_of_block (a := ⟨g, a * 3 + 2, none⟩) (HB2.out.block g hgl)).trans c3
  clear hR2
  go_wp2
  refine bodyPost_ret (v := .tuple #[.agg #[.int .i64 x.p, .int .i64 x.s, .int .i64 x.v], .int .i64 0]) (by simp [results, Try.results19, go_sem, *]) rfl ⟨by rw [HF.out], ?_⟩
  exact ((HB2.out.setCell (Nat.le_refl _) _).setCell (Nat.le_refl _) _).setCell (Nat.le_refl _) _

/-- What Node shows. -/
structure Show where
  up : Bool
  epoch : Int
  installed : Int
  role : Int
  len : Int
  done : Int
def Show.val (x : Show) : Value := .agg #[.bool x.up, .int .i64 x.epoch, .int .i64 x.installed, .int .i64 x.role, .int .i64 x.len, .int .i64 x.done]
def seen (c : Clu) (node : Int) : Show × Int :=
  if nodeB node then (⟨(c.nodes node.toNat).up, (c.nodes node.toNat).follows, (c.nodes node.toNat).given, (c.nodes node.toNat).role, (c.nodes node.toNat).log.length, if (c.nodes node.toNat).role = 3 then done c node.toNat else 0⟩, 0)
  else (⟨false, 0, 0, 0, 0, 0⟩, 2)

set_option maxHeartbeats 3200000 in
set_option maxRecDepth 100000 in
theorem node_any (h : Rep w S b c lv ev uv mv) (hok : Ok c) (node : Int) :
    Calls Try.prog 22 #[.pointer (some ⟨b, 0, none⟩), .int .i64 node] w fun e w' =>
      e = .returned (.tuple #[(seen c node).1.val, .int .i64 (seen c node).2]) ∧ Below w.heap.size w w' := by
  have H : Hid (Rep w S b c lv ev uv mv) := h
  have HO : Hid (Ok c) := hok
  have hbw := h.lt
  by_cases hn : 0 ≤ node ∧ node < 5
  rotate_left
  · have hb : nodeB node = false := by simp [nodeB]; omega
    have HF : Hid (seen c node = (⟨false, 0, 0, 0, 0, 0⟩, 2)) := by show seen c node = _; simp [seen, hb]
    clear h hok hn
    go_enter Try.func22, Try.ntmps22
    go_wp2_with (first | (go_at_call 51; refine (isNode_any _ _).mono ?_; rintro e w' ⟨rfl, rfl⟩))
    exact bodyPost_ret (v := .tuple #[.agg #[.bool false, .int .i64 0, .int .i64 0, .int .i64 0, .int .i64 0, .int .i64 0], .int .i64 2]) (by simp [results, Try.results22, go_sem]) rfl ⟨by rw [HF.out]; rfl, (Below.refl _ _).alloc (Nat.le_refl _) _⟩
  obtain ⟨h0, h5⟩ := hn
  obtain ⟨k, rfl⟩ := Int.eq_ofNat_of_zero_le h0
  have hk : k < 5 := by omega
  have hb : nodeB (k : Int) = true := by simp [nodeB]; omega
  have cu := h.cUp k hk
  have cf := h.cFol k hk
  have cg := h.cGiv k hk
  have cr := h.cRol k hk
  have cl := h.cLog k hk
  have k0 := h.cKno k 0 hk (by omega)
  have k1 := h.cKno k 1 hk (by omega)
  have k2 := h.cKno k 2 hk (by omega)
  have k3 := h.cKno k 3 hk (by omega)
  have k4 := h.cKno k 4 hk (by omega)
  have a0 := h.cHas k 0 hk (by omega)
  have a1 := h.cHas k 1 hk (by omega)
  have a2 := h.cHas k 2 hk (by omega)
  have a3 := h.cHas k 3 hk (by omega)
  have a4 := h.cHas k 4 hk (by omega)
  have hlen := hok.log k hk
  obtain ⟨ao, cap, hlv, hcap, _, hpos⟩ := ownsRow_shape (h.logs k hk)
  rw [hlv] at cl
  clear h hok hlv hpos hcap
  by_cases hr : (c.nodes k).role = 3
  · have HF : Hid (seen c k = (⟨(c.nodes k).up, (c.nodes k).follows, (c.nodes k).given, 3, (c.nodes k).log.length, done c k⟩, 0)) := by show seen c k = _; simp [seen, hb, hr]
    rw [hr] at cr
    clear hr
    go_enter Try.func22, Try.ntmps22
    go_wp2_with (first | (go_at_call 51; refine (isNode_any _ _).mono ?_; rintro e w' ⟨rfl, rfl⟩))
    refine (done_any (((H.out.alloc _).alloc _).alloc _) HO.out k hk).mono ?_
    rintro e w2 ⟨rfl, hB2⟩
    have hr := (hB2.block w.heap.size (by simp; omega)).trans ((Below.heap_alloc _ _ _ (by simp; omega)).trans (heap_alloc2_old _ _ _))
    have hs := (hB2.block (w.heap.size + 2) (by simp)).trans (heap_alloc_at (by simp))
    have HB2 : Hid (_) := (((((Below.refl w.heap.size w).alloc (Nat.le_refl _) _).alloc (by simp) _).alloc (by simp; omega) _).trans (hB2.mono (by simp; omega)))
    have r := fun o => cell_of_row _ _ o _ _ _ hr
    have q := fun o => cell_of_row _ _ o _ _ _ hs
    have z : ∀ o, w2.frozen? ⟨w.heap.size, o, none⟩ = false := fun o => frozen_of_row hr o
    have y : ∀ o, w2.frozen? ⟨w.heap.size + 2, o, none⟩ = false := fun o => frozen_of_row hs o
    have r0 := r 0; have r1 := r 1; have r2 := r 2; have r3 := r 3; have r4 := r 4; have r5 := r 5
    have q0 := q 0; have q1 := q 1; have q2 := q 2; have q3 := q 3; have q4 := q 4; have q5 := q 5
    have z0 := z 0; have z1 := z 1; have z2 := z 2; have z3 := z 3; have z4 := z 4; have z5 := z 5
    have y5 := y 5
    simp at r0 r1 r2 r3 r4 r5 q0 q1 q2 q3 q4 q5
    clear r q z y hr hs hB2
    go_wp2
    refine bodyPost_ret (v := .tuple #[.agg #[.bool (c.nodes k).up, .int .i64 (c.nodes k).follows, .int .i64 (c.nodes k).given, .int .i64 3, .int .i64 (c.nodes k).log.length, .int .i64 (done c k)], .int .i64 0]) (by simp [results, Try.results22, go_sem, *]) rfl ⟨by rw [HF.out]; rfl, ?_⟩
    exact (((((((HB2.out.setCell (by show w.heap.size ≤ w.heap.size + 1 + 1; omega) _).setCell (by simp) _).setCell (by simp) _).setCell (by simp) _).setCell (by simp) _).setCell (by simp) _).setCell (by simp) _)
  · have HF : Hid (seen c k = (⟨(c.nodes k).up, (c.nodes k).follows, (c.nodes k).given, (c.nodes k).role, (c.nodes k).log.length, 0⟩, 0)) := by show seen c k = _; simp [seen, hb, hr]
    have hr' : ((c.nodes k).role == 3) = false := by simp [hr]
    clear hr
    go_enter Try.func22, Try.ntmps22
    go_wp2_with (first | (go_at_call 51; refine (isNode_any _ _).mono ?_; rintro e w' ⟨rfl, rfl⟩))
    exact bodyPost_ret (v := .tuple #[.agg #[.bool (c.nodes k).up, .int .i64 (c.nodes k).follows, .int .i64 (c.nodes k).given, .int .i64 (c.nodes k).role, .int .i64 (c.nodes k).log.length, .int .i64 0], .int .i64 0]) (by simp [results, Try.results22, go_sem]) rfl ⟨by rw [HF.out]; rfl, ((((Below.refl _ _).alloc (Nat.le_refl _) _).alloc (by simp) _).alloc (by simp; omega) _)⟩
end
end Go.Proofs.Ythpjcmilfipbaaa
