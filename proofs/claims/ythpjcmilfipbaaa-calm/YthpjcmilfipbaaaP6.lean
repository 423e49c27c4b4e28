/- My own text: several texts in one. -/
import Derived.Test.YthpjcmilfipbaaaP4
import Derived.Test.YthpjcmilfipbaaaP5
namespace Go.Proofs.Ythpjcmilfipbaaa
set_option linter.unusedVariables false
set_option linter.unusedSimpArgs false
open Go.RowKit
theorem Fr.drewQ (S : Nat → Prop) (w : World) (n : Nat) : Fr S w (w.drewN n) := ⟨rfl, rfl, rfl, Nat.le_refl _, fun _ _ _ => rfl⟩
/-- A call's own copy of a message. -/
structure Kept1 (w V : World) (k : Nat) (m : Msg) (ro : Option Addr) (rl rc : Nat) : Prop where
  size : w.heap.size + 1 ≤ V.heap.size
  msg : V.heap[w.heap.size]? = some (.cells #[.int .i64 m.kind, .int .i64 m.frm, .int .i64 k, .int .i64 m.epoch, .int .i64 m.n, .slice ro rl rc] 101)
section
variable {w V V' : World} {k : Nat} {m : Msg} {ro : Option Addr} {rl rc : Nat}
theorem Kept1.m0 (h : Kept1 w V k m ro rl rc) : V.cell? ⟨w.heap.size, 0, none⟩ = some (.int .i64 m.kind) := (cell_of_row _ _ _ _ _ _ h.msg).trans rfl
theorem Kept1.m1 (h : Kept1 w V k m ro rl rc) : V.cell? ⟨w.heap.size, 1, none⟩ = some (.int .i64 m.frm) := (cell_of_row _ _ _ _ _ _ h.msg).trans rfl
theorem Kept1.m2 (h : Kept1 w V k m ro rl rc) : V.cell? ⟨w.heap.size, 2, none⟩ = some (.int .i64 k) := (cell_of_row _ _ _ _ _ _ h.msg).trans rfl
theorem Kept1.m3 (h : Kept1 w V k m ro rl rc) : V.cell? ⟨w.heap.size, 3, none⟩ = some (.int .i64 m.epoch) := (cell_of_row _ _ _ _ _ _ h.msg).trans rfl
theorem Kept1.m4 (h : Kept1 w V k m ro rl rc) : V.cell? ⟨w.heap.size, 4, none⟩ = some (.int .i64 m.n) := (cell_of_row _ _ _ _ _ _ h.msg).trans rfl
theorem Kept1.m5 (h : Kept1 w V k m ro rl rc) : V.cell? ⟨w.heap.size, 5, none⟩ = some (.slice ro rl rc) := (cell_of_row _ _ _ _ _ _ h.msg).trans rfl
theorem Kept1.same (h : Kept1 w V k m ro rl rc) {S : Nat → Prop} (hf : Fr (Gap S w.heap.size (w.heap.size + 1)) V V') : Kept1 w V' k m ro rl rc := by
  have := h.size
  exact ⟨Nat.le_trans h.size hf.size, (hf.block _ (by omega) (Gap.not (by omega) (by omega))).trans h.msg⟩
end
theorem follow_ok {c : Clu} (h : Ok c) (k : Nat) (e r : Int) : Ok (follow c k e r) :=
  ⟨fun i hi => by show (upd c.nodes k _ i).log.length ≤ 60; rw [upd_log (n := c.nodes) (by rfl)]; exact h.log i hi, h.ways, h.eps, h.mem⟩
theorem follow0_ok {c : Clu} (h : Ok c) (k : Nat) (e : Int) : Ok (follow0 c k e) := by
  unfold follow0; split
  · exact follow_ok h _ _ _
  · exact h
theorem giveLog_ok {c : Clu} (h : Ok c) (k : Nat) (l : List Rec) (hl : l.length ≤ 60) (e : Int) : Ok (giveLog c k l e) :=
  ⟨fun i hi => by
    show (upd c.nodes k _ i).log.length ≤ 60
    unfold upd; split
    · exact hl
    · exact h.log i hi, h.ways, h.eps, h.mem⟩
theorem give0_ok {c : Clu} (h : Ok c) (k : Nat) (m : Msg) (hl : m.recs.length ≤ 60) : Ok (give0 c k m) := by
  unfold give0; split
  · exact giveLog_ok h _ _ hl _
  · exact h
section
variable {w : World} {S : Nat → Prop} {b : Nat} {c : Clu} {lv : Nat → Value} {ev uv : Value} {mv : List (Msg × Value)}
set_option maxHeartbeats 16000000 in
set_option maxRecDepth 100000 in
theorem takeRead_any (h : Rep w S b c lv ev uv mv) (hok : Ok c) (k : Nat) (hk : k < 5) (m : Msg) (hto : m.to = k) (ro : Option Addr) (rl rc : Nat) :
    Calls Try.prog 92 #[.pointer (some ⟨b, 0, none⟩), msgVal m (.slice ro rl rc)] w fun e w' =>
      e = .returned (.tuple #[]) ∧ (∃ uv' mv', Rep w' (Ext S w) b (takeRead c k m) lv ev uv' mv') ∧ Fr S w w' := by
  unfold msgVal
  rw [hto]
  have hb := h.lt
  have H := hidP h
  have HO := hidP hok
  have hk0 : (0 : Int) ≤ (k : Int) := by omega
  have hk1 : (k : Int) < 5 := by omega
  clear h hok hto
  go_enter Try.func92, Try.ntmps92
  go_wp2_with fail
  refine wp_genP (fun W => Below w.heap.size w W ∧ Kept1 w W k m ro rl rc) ⟨(Below.refl _ _).alloc (Nat.le_refl _) _, by simp, heap_alloc_new w _⟩ ?_
  rintro W ⟨hW2, hW4⟩
  have hW1 := H.out.gap hW2 (w.heap.size + 1)
  have u1 := hW1.cFol k hk
  have m2 := hW4.m2
  have m3 := hW4.m3
  have m1 := hW4.m1
  have hbW := hW1.lt
  have hmW := hW4.size
  have HW1 := hidP hW1
  have HW2 := hidP hW2
  have HW4 := hidP hW4
  clear hW1 hW2 hW4
  have HT := hidP (show takeRead c k m = sendLog (follow0 c k m.epoch) 3 k m.frm from rfl)
  have HO1 := hidP (follow0_ok HO.out k m.epoch)
  by_cases c1 : (c.nodes k).follows < m.epoch
  · have HC1 := hidP (show follow0 c k m.epoch = follow c k m.epoch 0 by unfold follow0; rw [if_pos c1])
    go_quiet (fail)
    go_wp2_with fail
    refine (follow_any (w := W.drewN nq) (HW1.out.same fun _ _ _ => rfl) k hk m.epoch 0).mono ?_
    rintro e V1 ⟨rfl, hR1, hF1⟩
    have hF1 : Fr (Gap S w.heap.size (w.heap.size + 1)) W V1 := (Fr.drewQ _ W nq).then hF1
    have hH1 := HW4.out.same hF1
    have HF1 := hidP (show Fr S w V1 from (Fr.below HW2.out).trans (hF1.mono fun q e => Gap.ext (by omega) q e))
    have HR1 : Hid (Rep V1 (Gap S w.heap.size (w.heap.size + 1)) b (follow0 c k m.epoch) lv ev uv mv) := by show Rep V1 _ b (follow0 c k m.epoch) lv ev uv mv; rw [HC1.out]; exact hR1
    have g1 := hH1.m1
    have g2 := hH1.m2
    clear hR1 hF1 hH1 u1 m1 m2 m3
    go_wp2_with fail
    refine (sendLog_any (w := V1) HR1.out HO1.out k hk 3 m.frm).mono ?_
    rintro e w3 ⟨rfl, ⟨uv3, mv3, hR3⟩, hF3⟩
    have HR3 := hidP hR3
    have HF3 := hidP hF3
    clear hR3 hF3
    go_wp2
    exact bodyPost_end (results_none rfl _ _ _) rfl ⟨rfl, ⟨_, _, by
      rw [HT.out]
      exact HR3.out.mono fun q _ e => e.elim (fun e => Gap.ext (by omega) q e) fun e => Or.inr (Nat.le_trans HF1.out.size e)⟩, HF1.out.trans (HF3.out.mono fun q e => Gap.ext (by omega) q e)⟩
  · have HC1 := hidP (show follow0 c k m.epoch = c by unfold follow0; rw [if_neg c1])
    go_quiet (fail)
    go_wp2_with fail
    refine (sendLog_any (w := W.drewN nq) (HW1.out.same fun _ _ _ => rfl) HO.out k hk 3 m.frm).mono ?_
    rintro e w3 ⟨rfl, ⟨uv3, mv3, hR3⟩, hF3⟩
    have HR3 := hidP hR3
    have HF3 := hidP hF3
    clear hR3 hF3
    go_wp2
    exact bodyPost_end (results_none rfl _ _ _) rfl ⟨rfl, ⟨_, _, by
      rw [HT.out, HC1.out]
      exact HR3.out.mono fun q _ e => e.elim (fun e => Gap.ext (by omega) q e) fun e => Or.inr (Nat.le_trans HW2.out.size e)⟩, ((Fr.below HW2.out).then (Fr.drewQ _ W nq)).trans (HF3.out.mono fun q e => Gap.ext (by omega) q e)⟩
end
end Go.Proofs.Ythpjcmilfipbaaa

namespace Go.Proofs.Ythpjcmilfipbaaa
set_option linter.unusedVariables false
set_option linter.unusedSimpArgs false
open Go.RowKit
section
variable {w V : World} {k : Nat} {m : Msg} {nd : Nd} {lvk : Value} {ro : Option Addr} {rl rc : Nat}
theorem Held.m0 (h : Held w V k m nd lvk ro rl rc) : V.cell? ⟨w.heap.size, 0, none⟩ = some (.int .i64 m.kind) := (cell_of_row _ _ _ _ _ _ h.msg).trans rfl
theorem Held.m4 (h : Held w V k m nd lvk ro rl rc) : V.cell? ⟨w.heap.size, 4, none⟩ = some (.int .i64 m.n) := (cell_of_row _ _ _ _ _ _ h.msg).trans rfl
theorem Held.m5 (h : Held w V k m nd lvk ro rl rc) : V.cell? ⟨w.heap.size, 5, none⟩ = some (.slice ro rl rc) := (cell_of_row _ _ _ _ _ _ h.msg).trans rfl
end
theorem putRole_ok {c : Clu} (h : Ok c) (k : Nat) (r : Int) : Ok (putRole c k r) :=
  ⟨fun i hi => by show (upd c.nodes k _ i).log.length ≤ 60; rw [upd_log (n := c.nodes) (by rfl)]; exact h.log i hi, h.ways, h.eps, h.mem⟩
section
variable {w : World} {S : Nat → Prop} {b : Nat} {c : Clu} {lv : Nat → Value} {ev uv : Value} {mv : List (Msg × Value)}
set_option maxHeartbeats 16000000 in
set_option maxRecDepth 100000 in
theorem takeLogIn_any (h : Rep w S b c lv ev uv mv) (hok : Ok c) (k : Nat) (hk : k < 5) (m : Msg) (hto : m.to = k) (ro : Option Addr) (rc : Nat) (hrv : w.ownsRow 0 36 3 (.slice ro m.recs.length rc) m.recs.length (recCells m.recs)) (hl : m.recs.length ≤ 60) :
    Calls Try.prog 93 #[.pointer (some ⟨b, 0, none⟩), msgVal m (.slice ro m.recs.length rc)] w fun e w' =>
      e = .returned (.tuple #[]) ∧ (∃ lv' uv' mv', Rep w' (Ext S w) b (takeLogIn c k m) lv' ev uv' mv') ∧ Fr S w w' := by
  have HTL := hidP (fun (V : World) (S' : Nat → Prop) (hR : Rep V S' b c lv ev uv mv) (hV : Below w.heap.size w V) => takeLog_any hR hok k hk m hto ro rc (ownsRow_same (w' := V) hrv fun g hg hl => hV.block g hl) hl)
  have HOG := hidP (putRole_ok (giveLog_ok hok k m.recs hl m.epoch) k 2)
  unfold msgVal at HTL ⊢
  rw [hto] at HTL ⊢
  clear hrv
  generalize m.recs.length = rl at *
  obtain ⟨ao, cap, hlv, hcap, _, hpos⟩ := ownsRow_shape (h.logs k hk)
  have hb := h.lt
  have H := hidP h
  have HO := hidP hok
  have HL := hidP hlv
  have hk0 : (0 : Int) ≤ (k : Int) := by omega
  have hk1 : (k : Int) < 5 := by omega
  clear h hok hlv hpos hcap hto
  go_enter Try.func93, Try.ntmps93
  go_wp2_with fail
  refine wp_genP (fun W => Below w.heap.size w W ∧ W.heap.size = w.heap.size + 1 ∧ W.heap[w.heap.size]? = some (.cells #[.int .i64 m.kind, .int .i64 m.frm, .int .i64 k, .int .i64 m.epoch, .int .i64 m.n, .slice ro rl rc] 101)) ⟨(Below.refl _ _).alloc (Nat.le_refl _) _, by simp, heap_alloc_new w _⟩ ?_
  rintro W ⟨hW2, hW3, hW4⟩
  have hW1 : Rep W S b c lv ev uv mv := H.out.below hW2
  obtain ⟨u0, u1, u2, u3, u4⟩ := hW1.node k hk
  obtain ⟨u5, u6, u7, u8, u9⟩ := hW1.nodeHas k hk
  obtain ⟨u10, u11, u12, u13, u14⟩ := hW1.nodeKno k hk
  have m2 : W.cell? ⟨w.heap.size, 2, none⟩ = some (.int .i64 k) := (cell_of_row _ _ _ _ _ _ hW4).trans rfl
  rw [HL.out] at u4
  have hbW := hW1.lt
  have hmW : w.heap.size < W.heap.size := by omega
  have HW2 := hidP hW2
  have HW3 := hidP hW3
  have HW4 := hidP hW4
  clear hW1 hW2 hW3 hW4
  go_region
  refine exit_gen (fun V => Below w.heap.size w V ∧ Held w V k m (c.nodes k) (.slice ao (c.nodes k).log.length cap) ro rl rc) ⟨(HW2.out.alloc (by omega) _).drew, ⟨by simp; have := HW3.out; omega, (Below.heap_alloc _ _ _ hmW).trans HW4.out, by have := HW3.out; rw [← this]; exact heap_alloc_new W _⟩⟩ ?_
  rintro V ⟨hV1, hV2⟩
  have n1 : V.cell? ⟨W.heap.size, 1, none⟩ = some (.int .i64 (c.nodes k).follows) := by rw [HW3.out]; exact (cell_of_row _ _ _ _ _ _ hV2.nod).trans rfl
  have n2 : V.cell? ⟨W.heap.size, 2, none⟩ = some (.int .i64 (c.nodes k).given) := by rw [HW3.out]; exact (cell_of_row _ _ _ _ _ _ hV2.nod).trans rfl
  have n3 : V.cell? ⟨W.heap.size, 3, none⟩ = some (.int .i64 (c.nodes k).role) := by rw [HW3.out]; exact (cell_of_row _ _ _ _ _ _ hV2.nod).trans rfl
  have n4 : V.cell? ⟨W.heap.size, 4, none⟩ = some (.slice ao (c.nodes k).log.length cap) := by rw [HW3.out]; exact (cell_of_row _ _ _ _ _ _ hV2.nod).trans rfl
  have e0 := hV2.m0
  have e1 := hV2.m1
  have e2 := hV2.m2
  have e3 := hV2.m3
  have e4 := hV2.m4
  have e5 := hV2.m5
  have hVs := hV2.size
  have HV1 := hidP hV1
  have HV2 := hidP hV2
  have HVR := hidP (H.out.gap hV1 (w.heap.size + 2))
  clear hV1 hV2 u0 u1 u2 u3 u4 u5 u6 u7 u8 u9 u10 u11 u12 u13 u14 m2
  by_cases hcond : (c.nodes k).follows = m.epoch ∧ (c.nodes k).role = 1
  · have HT := hidP (show takeLogIn c k m = handOn (putRole (giveLog c k m.recs m.epoch) k 2) k by unfold takeLogIn; rw [if_pos hcond])
    have bf : ((c.nodes k).follows != m.epoch) = false := by simp [hcond.1]
    have br : ((c.nodes k).role != 1) = false := by simp [hcond.2]
    clear hcond
    go_wp2_with fail
    refine (HTL.out V (Gap S w.heap.size (w.heap.size + 2)) HVR.out HV1.out).mono ?_
    rintro e V2 ⟨rfl, ⟨lv2, hR2⟩, hF2⟩
    have hR2 : Rep V2 (Gap S w.heap.size (w.heap.size + 2)) b (giveLog c k m.recs m.epoch) lv2 ev uv mv := hR2.mono fun q _ e => e.elim id fun e => Or.inr (Nat.le_trans hVs e)
    have hH2 := HV2.out.same hF2
    have g2 := hH2.m2
    have r3 := hR2.cRol k hk
    have z3 := hR2.free (k * 15 + 3)
    have hlt2 := hR2.lt
    have hbm : ¬ w.heap.size = b := by omega
    have HH2 := hidP hH2
    have HF2 := hidP (show Fr S w V2 from (Fr.below HV1.out).trans (hF2.mono fun q e => Gap.ext (by omega) q e))
    have HS := hidP (hR2.setRol k hk 2)
    have nbm : ¬ b = w.heap.size := by omega
    have hms2 := hH2.size
    clear hF2 hR2 hH2 n1 n2 n3 n4 e0 e1 e2 e3 e4 e5
    go_wp2_with fail
    go_region
    have HR3 := hidP HS.out.1.drew
    have HF3 := hidP (show Fr S w _ from (HF2.out.trans (HS.out.2.mono fun q e => Gap.ext (by omega) q e)).then (Fr.drew _ _))
    clear r3 z3
    go_wp2_with fail
    refine (handOn_any HR3.out HOG.out k hk).mono ?_
    rintro e w4 ⟨rfl, ⟨uv4, mv4, hR4⟩, hF4⟩
    have HR4 := hidP hR4
    have HF4 := hidP hF4
    clear hR4 hF4
    go_wp2
    exact bodyPost_end (results_none rfl _ _ _) rfl ⟨rfl, ⟨_, _, _, by
      rw [HT.out]
      exact HR4.out.mono fun q _ e => e.elim (fun e => Gap.ext (by omega) q e) fun e => Or.inr (Nat.le_trans HF3.out.size e)⟩, HF3.out.trans (HF4.out.mono fun q e => Gap.ext (by omega) q e)⟩
  · have HT := hidP (show takeLogIn c k m = c by unfold takeLogIn; rw [if_neg hcond])
    cases hf : ((c.nodes k).follows != m.epoch)
    · have hr : ((c.nodes k).role != 1) = true := by
        simp at hf ⊢
        exact fun x => hcond ⟨hf, x⟩
      clear hcond
      go_wp2_with (first | (go_at_call 51; refine (isNode_any _ _).mono ?_; rintro e w' ⟨rfl, hw1⟩; rw [hw1]; clear hw1))
      exact bodyPost_ret (results_none rfl _ _ _) rfl ⟨rfl, ⟨_, _, _, by rw [HT.out]; exact HVR.out.mono fun q _ e => Gap.ext (by omega) q e⟩, Fr.below HV1.out⟩
    · clear hcond
      go_wp2_with (first | (go_at_call 51; refine (isNode_any _ _).mono ?_; rintro e w' ⟨rfl, hw1⟩; rw [hw1]; clear hw1))
      exact bodyPost_ret (results_none rfl _ _ _) rfl ⟨rfl, ⟨_, _, _, by rw [HT.out]; exact HVR.out.mono fun q _ e => Gap.ext (by omega) q e⟩, Fr.below HV1.out⟩
end
end Go.Proofs.Ythpjcmilfipbaaa

namespace Go.Proofs.Ythpjcmilfipbaaa
set_option linter.unusedVariables false
set_option linter.unusedSimpArgs false
open Go.RowKit
theorem putKnown_ok {c : Clu} (h : Ok c) (k f : Nat) (n : Int) : Ok (putKnown c k f n) :=
  ⟨fun i hi => by show (upd c.nodes k _ i).log.length ≤ 60; rw [upd_log (n := c.nodes) (by rfl)]; exact h.log i hi, h.ways, h.eps, h.mem⟩
theorem servTo_ok {c : Clu} (h : Ok c) (k : Nat) (n : Int) : ∀ j, Ok (servTo c k n j)
  | 0 => h
  | j + 1 => by
    have ih := servTo_ok h k n j
    unfold servTo
    split
    · exact putKnown_ok ih _ _ _
    · exact ih
section
variable {w : World} {S : Nat → Prop} {b : Nat} {c : Clu} {lv : Nat → Value} {ev uv : Value} {mv : List (Msg × Value)}
set_option maxHeartbeats 16000000 in
set_option maxRecDepth 100000 in
theorem takeServe_any (h : Rep w S b c lv ev uv mv) (hok : Ok c) (k : Nat) (hk : k < 5) (m : Msg) (hto : m.to = k) (ro : Option Addr) (rl rc : Nat) :
    Calls Try.prog 96 #[.pointer (some ⟨b, 0, none⟩), msgVal m (.slice ro rl rc)] w fun e w' =>
      e = .returned (.tuple #[]) ∧ (∃ lv' uv' mv', Rep w' (Ext S w) b (takeServe c k m) lv' ev uv' mv') ∧ Fr S w w' := by
  unfold msgVal
  rw [hto]
  have HOG := hidP (follow_ok hok k m.epoch 3)
  obtain ⟨ao, cap, hlv, hcap, _, hpos⟩ := ownsRow_shape (h.logs k hk)
  have hb := h.lt
  have H := hidP h
  have HO := hidP hok
  have HL := hidP hlv
  have hk0 : (0 : Int) ≤ (k : Int) := by omega
  have hk1 : (k : Int) < 5 := by omega
  clear h hok hlv hpos hcap hto
  go_enter Try.func96, Try.ntmps96
  go_wp2_with fail
  refine wp_genP (fun W => Below w.heap.size w W ∧ W.heap.size = w.heap.size + 1 ∧ W.heap[w.heap.size]? = some (.cells #[.int .i64 m.kind, .int .i64 m.frm, .int .i64 k, .int .i64 m.epoch, .int .i64 m.n, .slice ro rl rc] 101)) ⟨(Below.refl _ _).alloc (Nat.le_refl _) _, by simp, heap_alloc_new w _⟩ ?_
  rintro W ⟨hW2, hW3, hW4⟩
  have hW1 : Rep W S b c lv ev uv mv := H.out.below hW2
  obtain ⟨u0, u1, u2, u3, u4⟩ := hW1.node k hk
  obtain ⟨u5, u6, u7, u8, u9⟩ := hW1.nodeHas k hk
  obtain ⟨u10, u11, u12, u13, u14⟩ := hW1.nodeKno k hk
  have m2 : W.cell? ⟨w.heap.size, 2, none⟩ = some (.int .i64 k) := (cell_of_row _ _ _ _ _ _ hW4).trans rfl
  rw [HL.out] at u4
  have hbW := hW1.lt
  have hmW : w.heap.size < W.heap.size := by omega
  have HW2 := hidP hW2
  have HW3 := hidP hW3
  have HW4 := hidP hW4
  clear hW1 hW2 hW3 hW4
  go_region
  refine exit_gen (fun V => Below w.heap.size w V ∧ Held w V k m (c.nodes k) (.slice ao (c.nodes k).log.length cap) ro rl rc) ⟨(HW2.out.alloc (by omega) _).drew, ⟨by simp; have := HW3.out; omega, (Below.heap_alloc _ _ _ hmW).trans HW4.out, by have := HW3.out; rw [← this]; exact heap_alloc_new W _⟩⟩ ?_
  rintro V ⟨hV1, hV2⟩
  have n1 : V.cell? ⟨W.heap.size, 1, none⟩ = some (.int .i64 (c.nodes k).follows) := by rw [HW3.out]; exact (cell_of_row _ _ _ _ _ _ hV2.nod).trans rfl
  have n2 : V.cell? ⟨W.heap.size, 2, none⟩ = some (.int .i64 (c.nodes k).given) := by rw [HW3.out]; exact (cell_of_row _ _ _ _ _ _ hV2.nod).trans rfl
  have n3 : V.cell? ⟨W.heap.size, 3, none⟩ = some (.int .i64 (c.nodes k).role) := by rw [HW3.out]; exact (cell_of_row _ _ _ _ _ _ hV2.nod).trans rfl
  have n4 : V.cell? ⟨W.heap.size, 4, none⟩ = some (.slice ao (c.nodes k).log.length cap) := by rw [HW3.out]; exact (cell_of_row _ _ _ _ _ _ hV2.nod).trans rfl
  have e0 := hV2.m0
  have e1 := hV2.m1
  have e2 := hV2.m2
  have e3 := hV2.m3
  have e4 := hV2.m4
  have e5 := hV2.m5
  have hVs := hV2.size
  have HV1 := hidP hV1
  have HV2 := hidP hV2
  have HVR := hidP (H.out.gap hV1 (w.heap.size + 2))
  clear hV1 hV2 u0 u1 u2 u3 u4 u5 u6 u7 u8 u9 u10 u11 u12 u13 u14 m2
  by_cases hcond : (c.nodes k).follows = m.epoch ∧ (c.nodes k).role = 2
  · have HT := hidP (show takeServe c k m = servTo (follow c k m.epoch 3) k (c.nodes k).log.length 5 by unfold takeServe; rw [if_pos hcond])
    have bf : ((c.nodes k).follows != m.epoch) = false := by simp [hcond.1]
    have br : ((c.nodes k).role != 2) = false := by simp [hcond.2]
    clear hcond
    go_wp2_with fail
    refine (follow_any HVR.out k hk m.epoch 3).mono ?_
    rintro e V2 ⟨rfl, hR2, hF2⟩
    have HR2 := hidP hR2
    have HH2 := hidP (HV2.out.same hF2)
    have HF2 := hidP (show Fr S w V2 from (Fr.below HV1.out).trans (hF2.mono fun q e => Gap.ext (by omega) q e))
    clear hF2 hR2 n1 n2 n3 n4 e0 e1 e2 e3 e4 e5
    generalize follow c k m.epoch 3 = c2 at HT HOG HR2
    go_wp2_with fail
    go_loopw [29] (fun i wr => ∃ j : Nat, j ≤ 5 ∧ i = .int .i64 j ∧ Held w wr k m (c.nodes k) (.slice ao (c.nodes k).log.length cap) ro rl rc ∧ Rep wr (Gap S w.heap.size (w.heap.size + 2)) b (servTo c2 k (c.nodes k).log.length j) lv ev uv mv ∧ Fr S w wr) (fun i _ => 5 - (intOf i).toNat)
    case atStart => exact ⟨0, Nat.zero_le _, rfl, HH2.out, HR2.out, HF2.out⟩
    case round =>
      obtain ⟨j, hj5, rfl, hH, hR, hFr⟩ := hrel
      have HR := hidP hR
      have HH := hidP hH
      have HFr := hidP hFr
      have HO1 := hidP (servTo_ok HOG.out k (c.nodes k).log.length j)
      have g2 := hH.m2
      have hms := hH.size
      clear hR hFr hH
      by_cases hj : j < 5
      · have HI := hidP (isOther_any HR.out HO1.out k j hk hj)
        have hj0 : (0 : Int) ≤ (j : Int) := by omega
        have hj1 : (j : Int) < 5 := by omega
        cases hl : isOther (servTo c2 k (c.nodes k).log.length j) k j
        · have HS := hidP (show servTo c2 k (c.nodes k).log.length (j + 1) = servTo c2 k (c.nodes k).log.length j by rw [servTo, hl]; rfl)
          go_wp2_with (first | (go_at_call 67; refine HI.out.mono ?_; rintro e w3 ⟨rfl, hB3⟩; have HR3 := hidP (HR.out.below hB3); have HH3 := hidP (HH.out.same (S := S) (Fr.below hB3)); have HF3 := hidP (HFr.out.then (Fr.below hB3)); clear hB3))
          go_roundw
          case rel => exact ⟨j + 1, by omega, by go_num, HH3.out, by rw [HS.out]; exact HR3.out, HF3.out⟩
          case measure => simp [intOf]; omega
        · have HS := hidP (show servTo c2 k (c.nodes k).log.length (j + 1) = putKnown (servTo c2 k (c.nodes k).log.length j) k j (c.nodes k).log.length by rw [servTo, hl]; rfl)
          go_wp2_with (first | (go_at_call 67; refine HI.out.mono ?_; rintro e w3 ⟨rfl, hB3⟩; have HR3 := hidP (HR.out.below hB3); have HH3 := hidP (HH.out.same (S := S) (Fr.below hB3)); have HF3 := hidP (HFr.out.then (Fr.below hB3)); clear hB3))
          have k2 := HH3.out.m2
          have k4 : w3.cell? ⟨W.heap.size, 4, none⟩ = some (.slice ao (c.nodes k).log.length cap) := by rw [HW3.out]; exact (cell_of_row _ _ _ _ _ _ HH3.out.nod).trans rfl
          have q3 := HR3.out.cKno k j hk hj
          have z3 := HR3.out.free (k * 15 + 10 + j)
          have hb3 := HR3.out.lt
          have HST := hidP (HR3.out.setKnown k hk j hj (c.nodes k).log.length)
          have nbm : ¬ b = w.heap.size := by omega
          have hbm : ¬ w.heap.size = b := by omega
          go_wp2_with fail
          go_region
          go_wp2_with fail
          go_roundw
          case rel => exact ⟨j + 1, by omega, by go_num, HH3.out.same (S := S) (HST.out.2.then (Fr.drew _ _)), by rw [HS.out]; exact HST.out.1.drew, (HF3.out.trans (HST.out.2.mono fun q e => Gap.ext (by omega) q e)).then (Fr.drew _ _)⟩
          case measure => simp [intOf]; omega
      · have : j = 5 := by omega
        subst this
        go_wp2
        exact bodyPost_end (results_none rfl _ _ _) rfl ⟨rfl, ⟨_, _, _, by rw [HT.out]; exact HR.out.mono fun q _ e => Gap.ext (by omega) q e⟩, HFr.out⟩
  · have HT := hidP (show takeServe c k m = c by unfold takeServe; rw [if_neg hcond])
    cases hf : ((c.nodes k).follows != m.epoch)
    · have hr : ((c.nodes k).role != 2) = true := by
        simp at hf ⊢
        exact fun x => hcond ⟨hf, x⟩
      clear hcond
      go_wp2_with (first | (go_at_call 51; refine (isNode_any _ _).mono ?_; rintro e w' ⟨rfl, hw1⟩; rw [hw1]; clear hw1))
      exact bodyPost_ret (results_none rfl _ _ _) rfl ⟨rfl, ⟨_, _, _, by rw [HT.out]; exact HVR.out.mono fun q _ e => Gap.ext (by omega) q e⟩, Fr.below HV1.out⟩
    · clear hcond
      go_wp2_with (first | (go_at_call 51; refine (isNode_any _ _).mono ?_; rintro e w' ⟨rfl, hw1⟩; rw [hw1]; clear hw1))
      exact bodyPost_ret (results_none rfl _ _ _) rfl ⟨rfl, ⟨_, _, _, by rw [HT.out]; exact HVR.out.mono fun q _ e => Gap.ext (by omega) q e⟩, Fr.below HV1.out⟩
end
end Go.Proofs.Ythpjcmilfipbaaa
