/- My own text: several texts in one. -/
import Derived.Test.YthpjcmilfipbaaaR5
namespace Go.Proofs.Ythpjcmilfipbaaa
set_option linter.unusedVariables false
set_option linter.unusedSimpArgs false
open Go.RowKit
theorem letAt_alloc (w : World) (m : Msg) : LetAt (w.alloc (.cells #[.int .i64 m.kind, .int .i64 m.frm, .int .i64 m.to, .int .i64 m.epoch, .int .i64 m.n, .string (encB m.recs)] 134)) w.heap.size m := heap_alloc_new w _
section
variable {w : World} {S : Nat → Prop} {b : Nat} {d : Wd} {ev uv : Value}

set_option maxHeartbeats 3200000 in
set_option maxRecDepth 100000 in
theorem rtakes_old (h : RRep w S b d ev uv) (k : Nat) (hk : k < 5) (m : Msg) (he : m.epoch < (d.mem k).follows) :
    Calls Try.prog 102 #[.pointer (some ⟨b, 0, none⟩), .int .i64 k, letVal m] w fun e w' =>
      e = .returned (.tuple #[]) ∧ (∃ uv', RRep w' (Ext S w) b (rTakes d k m) ev uv') ∧ Fr S w w' := by
  have c1 := h.cFol k hk
  have hb := h.lt
  have HF : Hid (rTakes d k m = d) := by show rTakes d k m = _; rw [rTakes, if_pos he]
  have H : Hid (RRep w S b d ev uv) := h
  unfold letVal
  clear h
  go_enter Try.func102, Try.ntmps102
  go_wp2
  exact bodyPost_ret (results_none rfl _ _ _) rfl ⟨rfl, ⟨_, by rw [HF.out]; exact (H.out.alloc _).mono fun _ _ e => Or.inl e⟩, Fr.alloc _ _ _⟩

set_option maxHeartbeats 3200000 in
set_option maxRecDepth 100000 in
theorem rtakes_start (h : RRep w S b d ev uv) (hok : ROk d) (k : Nat) (hk : k < 5) (m : Msg) (hm : MsgOk d.eras.length m) (he : ¬ m.epoch < (d.mem k).follows) (hk1 : m.kind = 1) :
    Calls Try.prog 102 #[.pointer (some ⟨b, 0, none⟩), .int .i64 k, letVal m] w fun e w' =>
      e = .returned (.tuple #[]) ∧ (∃ uv', RRep w' (Ext S w) b (rTakes d k m) ev uv') ∧ Fr S w w' := by
  have c1 := h.cFol k hk
  have hb := h.lt
  obtain ⟨q, hq⟩ : ∃ q : Nat, m.epoch = (q : Int) + 1 := ⟨(m.epoch - 1).toNat, by have := hm.ep; omega⟩
  have hq1 : 1 ≤ q := by have := hm.start hk1; omega
  have hql : q < d.eras.length := by have := hm.ep; omega
  have HF : Hid (rTakes d k m = rStarts d k ((q : Int) + 1)) := by show rTakes d k m = _; rw [rTakes, if_neg he, if_pos hk1, hq]
  have H : Hid (RRep w S b d ev uv) := h
  have HO : Hid (ROk d) := hok
  have b1 : (m.kind == 1) = true := by simp [hk1]
  unfold letVal
  rw [hq] at he ⊢
  clear h hok hm hk1 hq
  go_enter Try.func102, Try.ntmps102
  go_wp2_with fail
  refine (rstarts_any (H.out.alloc _) HO.out k hk q hq1 hql).mono ?_
  rintro e w3 ⟨rfl, ⟨uv3, hR3⟩, hF3⟩
  have HR3 : Hid _ := hR3
  have HF3 : Hid _ := hF3
  clear hR3 hF3
  go_wp2
  exact bodyPost_end (results_none rfl _ _ _) rfl ⟨rfl, ⟨uv3, by rw [HF.out]; exact HR3.out.mono fun _ _ e => orR e fun e => by simp at e; omega⟩, (Fr.alloc _ _ _).then HF3.out⟩

set_option maxHeartbeats 3200000 in
set_option maxRecDepth 100000 in
theorem rtakes_read (h : RRep w S b d ev uv) (hok : ROk d) (k : Nat) (hk : k < 5) (m : Msg) (hm : MsgOk d.eras.length m) (he : ¬ m.epoch < (d.mem k).follows) (hk2 : m.kind = 2) :
    Calls Try.prog 102 #[.pointer (some ⟨b, 0, none⟩), .int .i64 k, letVal m] w fun e w' =>
      e = .returned (.tuple #[]) ∧ (∃ uv', RRep w' (Ext S w) b (rTakes d k m) ev uv') ∧ Fr S w w' := by
  have c1 := h.cFol k hk
  have hb := h.lt
  have HF : Hid (rTakes d k m = rSay (rFollows d k m.epoch 0) k m 3 ((rFollows d k m.epoch 0).mem k).log.length ((rFollows d k m.epoch 0).mem k).log) := by
    show rTakes d k m = _
    rw [rTakes, if_neg he, if_neg (by omega), if_pos hk2]
  have H : Hid (RRep w S b d ev uv) := h
  have HO1 : Hid (ROk (rFollows d k m.epoch 0)) := hok.follows k hk m.epoch 0 hm.ep.1 hm.ep.2
  have b1 : (m.kind == 1) = false := by simp [hk2]
  have b2 : (m.kind == 2) = true := by simp [hk2]
  unfold letVal
  clear h hok hm hk2
  go_enter Try.func102, Try.ntmps102
  go_wp2_with fail
  refine (rfollows_any (H.out.now.alloc _) k hk m.epoch 0).mono ?_
  rintro r w2 ⟨rfl, hR2, hF2⟩
  have c4 := hR2.cLog k hk
  have HR2 : Hid (RRep w2 (Now S w) b (rFollows d k m.epoch 0) ev uv) := hR2
  have HF2 : Hid (Fr S w w2) := (Fr.alloc _ _ _).then hF2.now
  have hL : LetAt w2 w.heap.size m := (letAt_alloc w m).same (hF2.block _ (by simp) (fun e => Nat.lt_irrefl _ e.2))
  obtain ⟨_, l1, _, _, _, _⟩ := hL.cells
  have HL : Hid (LetAt w2 w.heap.size m) := hL
  clear hR2 hF2 hL
  generalize rFollows d k m.epoch 0 = d1 at *
  have hlen := HO1.out.log k hk
  go_wp2_with fail
  go_region_held3 (fun w' => w'.cell? ⟨w.heap.size, 1, none⟩ = some (.int .i64 m.frm))
    (first
      | (simp only [World.cell?_drew, l1]; done)
      | exact (World.cell?_of_block (hFr3.out.block w.heap.size HL.out.lt (fun e => Nat.lt_irrefl _ e.2))).trans l1)
    (first
      | (go_at_call 74; refine (rcount_any _ hlen _).mono ?_; rintro e w1 ⟨rfl, hw1⟩; rw [hw1]; clear hw1)
      | (go_at_call 99; refine (rsends_any HR2.out.drew HO1.out.way { kind := 3, frm := k, to := m.frm, epoch := m.epoch, n := (d1.mem k).log.length, recs := (d1.mem k).log } _ rfl).mono ?_; rintro e w3 ⟨rfl, hR3, hF3⟩; have HR3 : Hid _ := hR3; have hFr3 : Hid _ := hF3; clear hR3 hF3))
  all_goals
    obtain ⟨uv3, hR3⟩ := HR3.out
    go_wp2
    exact bodyPost_end (results_none rfl _ _ _) rfl ⟨rfl, ⟨uv3, by rw [HF.out]; exact hR3.back (W := w2) HF2.out.size⟩, HF2.out.then ((Fr.drew _ w2).then hFr3.out.now)⟩

set_option maxHeartbeats 3200000 in
set_option maxRecDepth 100000 in
theorem rtakes_state (h : RRep w S b d ev uv) (hok : ROk d) (k : Nat) (hk : k < 5) (m : Msg) (hm : MsgOk d.eras.length m) (he : ¬ m.epoch < (d.mem k).follows) (hk4 : m.kind = 4) :
    Calls Try.prog 102 #[.pointer (some ⟨b, 0, none⟩), .int .i64 k, letVal m] w fun e w' =>
      e = .returned (.tuple #[]) ∧ (∃ uv', RRep w' (Ext S w) b (rTakes d k m) ev uv') ∧ Fr S w w' := by
  have c1 := h.cFol k hk
  have hb := h.lt
  have HF : Hid (rTakes d k m = if ((rFollows d k m.epoch 0).mem k).given < m.epoch then rSay (rGiven (rFollows d k m.epoch 0) k m.epoch m.recs) k m 5 0 [] else rSay (rFollows d k m.epoch 0) k m 5 0 []) := by
    show rTakes d k m = _
    rw [rTakes, if_neg he, if_neg (by omega), if_neg (by omega), if_pos hk4]
  have H : Hid (RRep w S b d ev uv) := h
  have HO1 : Hid (ROk (rFollows d k m.epoch 0)) := hok.follows k hk m.epoch 0 hm.ep.1 hm.ep.2
  have b1 : (m.kind == 1) = false := by simp [hk4]
  have b2 : (m.kind == 2) = false := by simp [hk4]
  have b4 : (m.kind == 4) = true := by simp [hk4]
  unfold letVal
  clear h hok hm hk4
  go_enter Try.func102, Try.ntmps102
  go_wp2_with fail
  refine (rfollows_any (H.out.now.alloc _) k hk m.epoch 0).mono ?_
  rintro r w2 ⟨rfl, hR2, hF2⟩
  have c2 := hR2.cGiv k hk
  have HR2 : Hid (RRep w2 (Now S w) b (rFollows d k m.epoch 0) ev uv) := hR2
  have HF2 : Hid (Fr S w w2) := (Fr.alloc _ _ _).then hF2.now
  have hL : LetAt w2 w.heap.size m := (letAt_alloc w m).same (hF2.block _ (by simp) (fun e => Nat.lt_irrefl _ e.2))
  obtain ⟨_, l1, _, _, _, l5⟩ := hL.cells
  have HL : Hid (LetAt w2 w.heap.size m) := hL
  clear hR2 hF2 hL
  generalize rFollows d k m.epoch 0 = d1 at *
  by_cases hg : (d1.mem k).given < m.epoch
  · go_wp2_with fail
    refine (rgiven_any HR2.out k hk m.epoch m.recs).mono ?_
    rintro r w3 ⟨rfl, hR3, hF3⟩
    have HR3 : Hid (RRep w3 (Now S w) b (rGiven d1 k m.epoch m.recs) ev uv) := hR3
    have HF3 : Hid (Fr S w w3) := HF2.out.then hF3.now
    have hL3 : LetAt w3 w.heap.size m := HL.out.same (hF3.block _ HL.out.lt (fun e => Nat.lt_irrefl _ e.2))
    obtain ⟨_, g1, _, _, _, _⟩ := hL3.cells
    clear hR3 hF3 hL3
    go_wp2_with fail
    refine (rsends_any HR3.out HO1.out.way { kind := 5, frm := k, to := m.frm, epoch := m.epoch, n := 0, recs := [] } _ rfl).mono ?_
    rintro e w4 ⟨rfl, ⟨uv4, hR4⟩, hF4⟩
    have HR4 : Hid _ := hR4
    have HF4 : Hid _ := hF4
    clear hR4 hF4
    go_wp2
    exact bodyPost_end (results_none rfl _ _ _) rfl ⟨rfl, ⟨uv4, by rw [HF.out, if_pos hg]; exact HR4.out.back HF3.out.size⟩, HF3.out.then HF4.out.now⟩
  · go_wp2_with fail
    refine (rsends_any HR2.out HO1.out.way { kind := 5, frm := k, to := m.frm, epoch := m.epoch, n := 0, recs := [] } _ rfl).mono ?_
    rintro e w4 ⟨rfl, ⟨uv4, hR4⟩, hF4⟩
    have HR4 : Hid _ := hR4
    have HF4 : Hid _ := hF4
    clear hR4 hF4
    go_wp2
    exact bodyPost_end (results_none rfl _ _ _) rfl ⟨rfl, ⟨uv4, by rw [HF.out, if_neg (by omega)]; exact HR4.out.back HF2.out.size⟩, HF2.out.then HF4.out.now⟩

set_option maxHeartbeats 3200000 in
set_option maxRecDepth 100000 in
theorem rtakes_rest (h : RRep w S b d ev uv) (hok : ROk d) (k : Nat) (hk : k < 5) (m : Msg) (hm : MsgOk d.eras.length m) (he : ¬ m.epoch < (d.mem k).follows) (hk1 : m.kind ≠ 1) (hk2 : m.kind ≠ 2) (hk4 : m.kind ≠ 4) (hk8 : m.kind ≠ 8) :
    Calls Try.prog 102 #[.pointer (some ⟨b, 0, none⟩), .int .i64 k, letVal m] w fun e w' =>
      e = .returned (.tuple #[]) ∧ (∃ uv', RRep w' (Ext S w) b (rTakes d k m) ev uv') ∧ Fr S w w' := by
  have c1 := h.cFol k hk
  have hb := h.lt
  have HF : Hid (rTakes d k m = if (d.mem k).follows = m.epoch then rLeads d k m else d) := by
    show rTakes d k m = _
    rw [rTakes, if_neg he, if_neg hk1, if_neg hk2, if_neg hk4, if_neg hk8]
  have H : Hid (RRep w S b d ev uv) := h
  have HO : Hid (ROk d) := hok
  have HM : Hid (MsgOk d.eras.length m) := hm
  have b1 : (m.kind == 1) = false := by simp [hk1]
  have b2 : (m.kind == 2) = false := by simp [hk2]
  have b4 : (m.kind == 4) = false := by simp [hk4]
  have b8 : (m.kind == 8) = false := by simp [hk8]
  unfold letVal
  clear h hok hm hk1 hk2 hk4 hk8
  by_cases hf : (d.mem k).follows = m.epoch
  · have bf : ((d.mem k).follows == m.epoch) = true := by simp [hf]
    have HFq : Hid ((d.mem k).follows = m.epoch) := hf
    clear hf
    go_enter Try.func102, Try.ntmps102
    go_wp2_with fail
    refine (rleads_any (H.out.alloc _) HO.out k hk m HM.out).mono ?_
    rintro e w4 ⟨rfl, ⟨uv4, hR4⟩, hF4⟩
    have HR4 : Hid _ := hR4
    have HF4 : Hid _ := hF4
    clear hR4 hF4
    go_wp2
    exact bodyPost_end (results_none rfl _ _ _) rfl ⟨rfl, ⟨uv4, by rw [HF.out, if_pos HFq.out]; exact HR4.out.mono fun _ _ e => orR e fun e => by simp at e; omega⟩, (Fr.alloc _ _ _).then HF4.out⟩
  · have bf : ((d.mem k).follows == m.epoch) = false := by simp [hf]
    have HFq : Hid (¬ (d.mem k).follows = m.epoch) := hf
    clear hf
    go_enter Try.func102, Try.ntmps102
    go_wp2
    exact bodyPost_end (results_none rfl _ _ _) rfl ⟨rfl, ⟨uv, by rw [HF.out, if_neg HFq.out]; exact (H.out.alloc _).mono fun _ _ e => Or.inl e⟩, Fr.alloc _ _ _⟩
end
end Go.Proofs.Ythpjcmilfipbaaa

namespace Go.Proofs.Ythpjcmilfipbaaa
set_option linter.unusedVariables false
set_option linter.unusedSimpArgs false
open Go.RowKit
section
variable {w : World} {S : Nat → Prop} {b : Nat} {d : Wd} {ev uv : Value}

set_option maxHeartbeats 3200000 in
set_option maxRecDepth 100000 in
theorem rtakes_not (h : RRep w S b d ev uv) (k : Nat) (hk : k < 5) (m : Msg) (he : ¬ m.epoch < (d.mem k).follows) (hk8 : m.kind = 8) (hno : ¬ ((d.mem k).follows = m.epoch ∧ (d.mem k).given = m.epoch ∧ (d.mem k).role = 0)) :
    Calls Try.prog 102 #[.pointer (some ⟨b, 0, none⟩), .int .i64 k, letVal m] w fun e w' =>
      e = .returned (.tuple #[]) ∧ (∃ uv', RRep w' (Ext S w) b (rTakes d k m) ev uv') ∧ Fr S w w' := by
  obtain ⟨m0, m1, m2, m3, m4, m5, m6, m7, m8, m9, m10, m11, m12, m13, m14⟩ := h.member k hk
  have hb := h.lt
  have HF : Hid (rTakes d k m = d) := by
    show rTakes d k m = _
    rw [rTakes, if_neg he, if_neg (by omega), if_neg (by omega), if_neg (by omega), if_pos hk8, if_neg hno]
  have H : Hid (RRep w S b d ev uv) := h
  have b1 : (m.kind == 1) = false := by simp [hk8]
  have b2 : (m.kind == 2) = false := by simp [hk8]
  have b4 : (m.kind == 4) = false := by simp [hk8]
  have b8 : (m.kind == 8) = true := by simp [hk8]
  unfold letVal
  clear h hk8
  have key : (d.mem k).follows ≠ m.epoch ∨ ((d.mem k).follows = m.epoch ∧ (d.mem k).given ≠ m.epoch) ∨ ((d.mem k).follows = m.epoch ∧ (d.mem k).given = m.epoch ∧ (d.mem k).role ≠ 0) := by omega
  clear hno
  rcases key with q | ⟨p, q⟩ | ⟨p, p2, q⟩
  · have bf : ((d.mem k).follows == m.epoch) = false := by simp [q]
    clear q
    go_enter Try.func102, Try.ntmps102
    go_wp2
    exact bodyPost_end (results_none rfl _ _ _) rfl ⟨rfl, ⟨uv, by rw [HF.out]; exact ((H.out.alloc _).alloc _).mono fun _ _ e => Or.inl e⟩, (Fr.alloc _ _ _).then (Fr.alloc _ _ _)⟩
  · have bf : ((d.mem k).follows == m.epoch) = true := by simp [p]
    have bg : ((d.mem k).given == m.epoch) = false := by simp [q]
    clear p q
    go_enter Try.func102, Try.ntmps102
    go_wp2
    exact bodyPost_end (results_none rfl _ _ _) rfl ⟨rfl, ⟨uv, by rw [HF.out]; exact ((H.out.alloc _).alloc _).mono fun _ _ e => Or.inl e⟩, (Fr.alloc _ _ _).then (Fr.alloc _ _ _)⟩
  · have bf : ((d.mem k).follows == m.epoch) = true := by simp [p]
    have bg : ((d.mem k).given == m.epoch) = true := by simp [p2]
    have br : ((d.mem k).role == 0) = false := by simp [q]
    clear p p2 q
    go_enter Try.func102, Try.ntmps102
    go_wp2
    exact bodyPost_end (results_none rfl _ _ _) rfl ⟨rfl, ⟨uv, by rw [HF.out]; exact ((H.out.alloc _).alloc _).mono fun _ _ e => Or.inl e⟩, (Fr.alloc _ _ _).then (Fr.alloc _ _ _)⟩
set_option maxHeartbeats 3200000 in
set_option maxRecDepth 100000 in
theorem rtakes_append (h : RRep w S b d ev uv) (hok : ROk d) (k : Nat) (hk : k < 5) (m : Msg) (hm : MsgOk d.eras.length m) (hk8 : m.kind = 8) (hfe : (d.mem k).follows = m.epoch) (hge : (d.mem k).given = m.epoch) (hr0 : (d.mem k).role = 0) :
    Calls Try.prog 102 #[.pointer (some ⟨b, 0, none⟩), .int .i64 k, letVal m] w fun e w' =>
      e = .returned (.tuple #[]) ∧ (∃ uv', RRep w' (Ext S w) b (rTakes d k m) ev uv') ∧ Fr S w w' := by
  obtain ⟨m0, m1, m2, m3, m4, m5, m6, m7, m8, m9, m10, m11, m12, m13, m14⟩ := h.member k hk
  have hb := h.lt
  have he : ¬ m.epoch < (d.mem k).follows := by omega
  have hlen := hok.log k hk
  have hm8 := hm.app hk8
  have HF : Hid (rTakes d k m = rSay (rTakeAppend d k m) k m 9 ((rTakeAppend d k m).mem k).log.length []) := by
    show rTakes d k m = _
    rw [rTakes, if_neg he, if_neg (by omega), if_neg (by omega), if_neg (by omega), if_pos hk8, if_pos ⟨hfe, hge, hr0⟩]
  have H : Hid (RRep w S b d ev uv) := h
  have HO : Hid (ROk d) := hok
  have b1 : (m.kind == 1) = false := by simp [hk8]
  have b2 : (m.kind == 2) = false := by simp [hk8]
  have b4 : (m.kind == 4) = false := by simp [hk8]
  have b8 : (m.kind == 8) = true := by simp [hk8]
  have bf : ((d.mem k).follows == m.epoch) = true := by simp [hfe]
  have bg : ((d.mem k).given == m.epoch) = true := by simp [hge]
  have br : ((d.mem k).role == 0) = true := by simp [hr0]
  unfold letVal
  have HB8 : Hid (∀ r ∈ (d.mem k).log ++ m.recs, recOk r) := fun r hr => by
    rcases List.mem_append.1 hr with hr | hr
    · exact hok.byt k hk r hr
    · exact hm.recs r hr
  have hki0 : (0 : Int) ≤ (k : Int) := by omega
  have hki5 : (k : Int) < 5 := by omega
  clear h hok hk8 hm hfe hge hr0
  go_enter Try.func102, Try.ntmps102
  go_wp2_with fail
  refine wp_genR (fun W => RRep W (Now S w) b d ev uv ∧ Fr S w W ∧ LetAt W w.heap.size m ∧ Copy W (w.heap.size + 1) (d.mem k)) ⟨(H.out.now.alloc _).alloc _, (Fr.alloc _ _ _).then (Fr.alloc _ _ _), heap_alloc2_old w _ _, by have q := copy_alloc (w.alloc (.cells #[.int .i64 m.kind, .int .i64 m.frm, .int .i64 m.to, .int .i64 m.epoch, .int .i64 m.n, .string (encB m.recs)] 134)) (d.mem k); simpa using q⟩ ?_
  rintro W ⟨hWR, hWB, hWL, hWC⟩
  obtain ⟨_, l1, _, _, l4, l5⟩ := hWL.cells
  obtain ⟨_, _, _, g4⟩ := hWC.cells
  have hbW := hWR.lt
  have HWR : Hid (RRep W (Now S w) b d ev uv) := hWR
  have HWB : Hid (Fr S w W) := hWB
  have HWL : Hid (LetAt W w.heap.size m) := hWL
  have HWC : Hid (Copy W (w.heap.size + 1) (d.mem k)) := hWC
  clear hWR hWB hWL hWC m0 m1 m2 m3 m4 m5 m6 m7 m8 m9 m10 m11 m12 m13 m14
  by_cases hn : m.n = ((d.mem k).log.length : Int)
  · have bn : (m.n == ((d.mem k).log.length : Int)) = true := by simp [hn]
    have HT : Hid (rTakeAppend d k m = rPutLog d k ((d.mem k).log ++ m.recs)) := by show rTakeAppend d k m = _; rw [rTakeAppend, if_pos hn]
    go_quiet (first | (go_at_call 74; refine Calls.quiet_of_same (rcount_any _ hlen _)))
    have HO2 : Hid (ROk (rPutLog d k ((d.mem k).log ++ m.recs))) := HO.out.putLog k hk _ (by rw [List.length_append]; omega) HB8.out
    have HA : Hid (encB (d.mem k).log ++ encB m.recs = encB ((d.mem k).log ++ m.recs)) := (encB_append _ _).symm
    have HS : Hid (∀ (W1 : World), RRep W1 (Now S w) b d ev uv → RRep (W1.setCell ⟨b, k * 15 + 4, none⟩ (.string (encB (d.mem k).log ++ encB m.recs))) (Now S w) b (rPutLog d k ((d.mem k).log ++ m.recs)) ev uv ∧ Fr (Now S w) W1 (W1.setCell ⟨b, k * 15 + 4, none⟩ (.string (encB (d.mem k).log ++ encB m.recs)))) := fun W1 h1 => by
      rw [HA.out]; exact h1.setCell (k * 15 + 4) (.string (encB ((d.mem k).log ++ m.recs))) _ rfl rfl (fun cs hcs => hcs.setLog2 k hk _)
    have zL := HWR.out.free (k * 15 + 4)
    have cL := HWR.out.cLog k hk
    have hl2 : ((d.mem k).log ++ m.recs).length ≤ 60 := by rw [List.length_append]; omega
    have hnb : ¬ w.heap.size = b := by omega
    have hnb1 : ¬ w.heap.size + 1 = b := by omega
    have hsz : ¬ 9223372036854775807 < (encB (d.mem k).log).size + (encB m.recs).size := by rw [encB_size, encB_size]; omega
    go_wp2_with fail
    go_region
    go_wp2_with fail
    refine wp_genR (fun W2 => RRep W2 (Now S w) b (rPutLog d k ((d.mem k).log ++ m.recs)) ev uv ∧ Fr S w W2 ∧ LetAt W2 w.heap.size m) ?_ ?_
    · have q := HS.out (W.drewN (nq + 1)) (HWR.out.drewN _)
      exact ⟨q.1, (HWB.out.then (Fr.drewN _ W _)).then q.2.now, HWL.out.same ((Below.heap_setCell (W.drewN (nq + 1)) ⟨b, k * 15 + 4, none⟩ _ _ hnb).trans rfl)⟩
    clear HWR HWB HWL HWC zL cL l1 l4 l5 g4 hsz HA HS hl2 bn hn hbW
    rintro W2 ⟨hWR2, hWB2, hWL2⟩
    obtain ⟨_, l1, _, _, _, _⟩ := hWL2.cells
    have cL := hWR2.cLog k hk
    have hbW := hWR2.lt
    have HWR2 : Hid (RRep W2 (Now S w) b (rPutLog d k ((d.mem k).log ++ m.recs)) ev uv) := hWR2
    have HWB2 : Hid (Fr S w W2) := hWB2
    have HWL2 : Hid (LetAt W2 w.heap.size m) := hWL2
    clear hWR2 hWB2 hWL2
    generalize (rPutLog d k ((d.mem k).log ++ m.recs)) = d2 at *
    have hl2 := HO2.out.log k hk
    go_region_held3 (fun w' => w'.cell? ⟨w.heap.size, 1, none⟩ = some (.int .i64 m.frm) ∧ w'.cell? ⟨b, k * 15 + 4, none⟩ = some (.string (encB (d2.mem k).log)))
      (first
        | (simp only [World.cell?_drew]; exact ⟨l1, cL⟩)
        | exact ⟨(World.cell?_of_block (hFr3.out.block w.heap.size HWL2.out.lt (fun e => Nat.lt_irrefl _ e.2))).trans l1, by obtain ⟨u, hu⟩ := HR3.out; have q := hu.cLog k hk; rw [(rSends_same _ _).1] at q; exact q⟩)
      (first
        | (go_at_call 74; refine (rcount_any _ hl2 _).mono ?_; rintro e w1 ⟨rfl, hw1⟩; rw [hw1]; clear hw1)
        | (go_at_call 99; refine (rsends_any HWR2.out.drew HO2.out.way { kind := 9, frm := k, to := m.frm, epoch := m.epoch, n := (d2.mem k).log.length, recs := [] } _ rfl).mono ?_; rintro e w3 ⟨rfl, hR3, hF3⟩; have HR3 : Hid _ := hR3; have hFr3 : Hid _ := hF3; clear hR3 hF3))
    all_goals
      obtain ⟨uv3, hR3⟩ := HR3.out
      go_wp2
      exact bodyPost_end (results_none rfl _ _ _) rfl ⟨rfl, ⟨uv3, by rw [HF.out, HT.out]; exact hR3.back (W := W2) HWB2.out.size⟩, HWB2.out.then ((Fr.drew _ W2).then hFr3.out.now)⟩
  · have bn : (m.n == ((d.mem k).log.length : Int)) = false := by simp [hn]
    have HT : Hid (rTakeAppend d k m = d) := by show rTakeAppend d k m = _; rw [rTakeAppend, if_neg hn]
    clear hn
    go_quiet (first | (go_at_call 74; refine Calls.quiet_of_same (rcount_any _ hlen _)))
    go_wp2_with fail
    refine wp_genR (fun W2 => RRep W2 (Now S w) b d ev uv ∧ Fr S w W2 ∧ LetAt W2 w.heap.size m) ⟨HWR.out.drewN _, HWB.out.then (Fr.drewN _ W _), HWL.out⟩ ?_
    clear HWR HWB HWL HWC l1 l4 l5 g4 hbW
    rintro W2 ⟨hWR2, hWB2, hWL2⟩
    obtain ⟨_, l1, _, _, _, _⟩ := hWL2.cells
    have cL := hWR2.cLog k hk
    have hbW := hWR2.lt
    have HWR2 : Hid (RRep W2 (Now S w) b d ev uv) := hWR2
    have HWB2 : Hid (Fr S w W2) := hWB2
    have HWL2 : Hid (LetAt W2 w.heap.size m) := hWL2
    clear hWR2 hWB2 hWL2
    have HO2 : Hid (ROk d) := HO.out
    have hl2 := HO2.out.log k hk
    go_region_held3 (fun w' => w'.cell? ⟨w.heap.size, 1, none⟩ = some (.int .i64 m.frm) ∧ w'.cell? ⟨b, k * 15 + 4, none⟩ = some (.string (encB (d.mem k).log)))
      (first
        | (simp only [World.cell?_drew]; exact ⟨l1, cL⟩)
        | exact ⟨(World.cell?_of_block (hFr3.out.block w.heap.size HWL2.out.lt (fun e => Nat.lt_irrefl _ e.2))).trans l1, by obtain ⟨u, hu⟩ := HR3.out; have q := hu.cLog k hk; rw [(rSends_same _ _).1] at q; exact q⟩)
      (first
        | (go_at_call 74; refine (rcount_any _ hl2 _).mono ?_; rintro e w1 ⟨rfl, hw1⟩; rw [hw1]; clear hw1)
        | (go_at_call 99; refine (rsends_any HWR2.out.drew HO2.out.way { kind := 9, frm := k, to := m.frm, epoch := m.epoch, n := (d.mem k).log.length, recs := [] } _ rfl).mono ?_; rintro e w3 ⟨rfl, hR3, hF3⟩; have HR3 : Hid _ := hR3; have hFr3 : Hid _ := hF3; clear hR3 hF3))
    all_goals
      obtain ⟨uv3, hR3⟩ := HR3.out
      go_wp2
      exact bodyPost_end (results_none rfl _ _ _) rfl ⟨rfl, ⟨uv3, by rw [HF.out, HT.out]; exact hR3.back (W := W2) HWB2.out.size⟩, HWB2.out.then ((Fr.drew _ W2).then hFr3.out.now)⟩
end
end Go.Proofs.Ythpjcmilfipbaaa
