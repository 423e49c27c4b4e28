/- My own text: several texts in one. -/
import Derived.Test.YthpjcmilfipbaaaP4
namespace Go.Proofs.Ythpjcmilfipbaaa
set_option linter.unusedVariables false
set_option linter.unusedSimpArgs false
open Go.RowKit
theorem Fr.drewP (S : Nat → Prop) (w : World) (n : Nat) : Fr S w (w.drewN n) := ⟨rfl, rfl, rfl, Nat.le_refl _, fun _ _ _ => rfl⟩
/-- A call's own copy of a message, and its copy of a node. -/
structure Held (w V : World) (k : Nat) (m : Msg) (nd : Nd) (lvk : Value) (ro : Option Addr) (rl rc : Nat) : Prop where
  size : w.heap.size + 2 ≤ V.heap.size
  msg : V.heap[w.heap.size]? = some (.cells #[.int .i64 m.kind, .int .i64 m.frm, .int .i64 k, .int .i64 m.epoch, .int .i64 m.n, .slice ro rl rc] 101)
  nod : V.heap[w.heap.size + 1]? = some (.cells (ndRow nd lvk).toArray 89)
theorem Held.m1 {w V : World} {k : Nat} {m : Msg} {nd : Nd} {lvk : Value} {ro : Option Addr} {rl rc : Nat} (h : Held w V k m nd lvk ro rl rc) : V.cell? ⟨w.heap.size, 1, none⟩ = some (.int .i64 m.frm) := (cell_of_row _ _ _ _ _ _ h.msg).trans rfl
theorem Held.m2 {w V : World} {k : Nat} {m : Msg} {nd : Nd} {lvk : Value} {ro : Option Addr} {rl rc : Nat} (h : Held w V k m nd lvk ro rl rc) : V.cell? ⟨w.heap.size, 2, none⟩ = some (.int .i64 k) := (cell_of_row _ _ _ _ _ _ h.msg).trans rfl
theorem Held.m3 {w V : World} {k : Nat} {m : Msg} {nd : Nd} {lvk : Value} {ro : Option Addr} {rl rc : Nat} (h : Held w V k m nd lvk ro rl rc) : V.cell? ⟨w.heap.size, 3, none⟩ = some (.int .i64 m.epoch) := (cell_of_row _ _ _ _ _ _ h.msg).trans rfl
theorem Held.same {w V V' : World} {k : Nat} {m : Msg} {nd : Nd} {lvk : Value} {ro : Option Addr} {rl rc : Nat} (h : Held w V k m nd lvk ro rl rc) {S : Nat → Prop} (hf : Fr (Gap S w.heap.size (w.heap.size + 2)) V V') : Held w V' k m nd lvk ro rl rc := by
  have := h.size
  exact ⟨Nat.le_trans h.size hf.size, (hf.block _ (by omega) (Gap.not (by omega) (by omega))).trans h.msg, (hf.block _ (by omega) (Gap.not (by omega) (by omega))).trans h.nod⟩
theorem exit_gen {K : Act → World → Prop} {Q : Exit → Act → World → Prop} {x : Exit} {a : Act} {w : World} (F : World → Prop) (hF : F w) (h : ∀ W, F W → Exit.then K Q x a W) : Exit.then K Q x a w := h w hF
theorem wakeTo_ok {c : Clu} (h : Ok c) (k : Nat) (e : Int) : Ok (wakeTo c k e) := by
  unfold wakeTo; split
  · exact ⟨fun i hi => by show (upd c.nodes k _ i).log.length ≤ 60; rw [upd_log (n := c.nodes) (by rfl)]; exact h.log i hi, h.ways, h.eps, h.mem⟩
  · exact h
section
variable {w : World} {S : Nat → Prop} {b : Nat} {c : Clu} {lv : Nat → Value} {ev uv : Value} {mv : List (Msg × Value)}
set_option maxHeartbeats 16000000 in
set_option maxRecDepth 100000 in
theorem takeStart_any (h : Rep w S b c lv ev uv mv) (hok : Ok c) (k : Nat) (hk : k < 5) (m : Msg) (hto : m.to = k) (ro : Option Addr) (rl rc : Nat) :
    Calls Try.prog 91 #[.pointer (some ⟨b, 0, none⟩), msgVal m (.slice ro rl rc)] w fun e w' =>
      e = .returned (.tuple #[]) ∧ (∃ uv' mv', Rep w' (Ext S w) b (takeStart c k m) lv ev uv' mv') ∧ Fr S w w' := by
  unfold msgVal
  rw [hto]
  obtain ⟨ao, cap, hlv, hcap, _, hpos⟩ := ownsRow_shape (h.logs k hk)
  have hb := h.lt
  have H := hidP h
  have HO := hidP hok
  have HL := hidP hlv
  have hk0 : (0 : Int) ≤ (k : Int) := by omega
  have hk1 : (k : Int) < 5 := by omega
  clear h hok hlv hpos hcap hto
  go_enter Try.func91, Try.ntmps91
  go_wp2_with fail
  refine wp_genP (fun W => Below w.heap.size w W ∧ W.heap.size = w.heap.size + 1 ∧ W.heap[w.heap.size]? = some (.cells #[.int .i64 m.kind, .int .i64 m.frm, .int .i64 k, .int .i64 m.epoch, .int .i64 m.n, .slice ro rl rc] 101)) ⟨(Below.refl _ _).alloc (Nat.le_refl _) _, by simp, heap_alloc_new w _⟩ ?_
  rintro W ⟨hW2, hW3, hW4⟩
  have hW1 : Rep W S b c lv ev uv mv := H.out.below hW2
  obtain ⟨u0, u1, u2, u3, u4⟩ := hW1.node k hk
  obtain ⟨u5, u6, u7, u8, u9⟩ := hW1.nodeHas k hk
  obtain ⟨u10, u11, u12, u13, u14⟩ := hW1.nodeKno k hk
  have m2 : W.cell? ⟨w.heap.size, 2, none⟩ = some (.int .i64 k) := (cell_of_row _ _ _ _ _ _ hW4).trans rfl
  rw [HL.out] at u4
  have hbW := hW1.lt
  have hmW : w.heap.size < W.heap.size := by omega
  have HW2 := hidP hW2
  have HW3 := hidP hW3
  have HW4 := hidP hW4
  clear hW1 hW2 hW3 hW4
  go_region
  refine exit_gen (fun V => Below w.heap.size w V ∧ Held w V k m (c.nodes k) (.slice ao (c.nodes k).log.length cap) ro rl rc) ⟨(HW2.out.alloc (by omega) _).drew, ⟨by simp; have := HW3.out; omega, (Below.heap_alloc _ _ _ hmW).trans HW4.out, by have := HW3.out; rw [← this]; exact heap_alloc_new W _⟩⟩ ?_
  rintro V ⟨hV1, hV2⟩
  have n1 : V.cell? ⟨W.heap.size, 1, none⟩ = some (.int .i64 (c.nodes k).follows) := by rw [HW3.out]; exact (cell_of_row _ _ _ _ _ _ hV2.nod).trans rfl
  have n2 : V.cell? ⟨W.heap.size, 2, none⟩ = some (.int .i64 (c.nodes k).given) := by rw [HW3.out]; exact (cell_of_row _ _ _ _ _ _ hV2.nod).trans rfl
  have n3 : V.cell? ⟨W.heap.size, 3, none⟩ = some (.int .i64 (c.nodes k).role) := by rw [HW3.out]; exact (cell_of_row _ _ _ _ _ _ hV2.nod).trans rfl
  have e2 := hV2.m2
  have e3 := hV2.m3
  have hVs := hV2.size
  have HV1 := hidP hV1
  have HV2 := hidP hV2
  have HVR := hidP (H.out.gap hV1 (w.heap.size + 2))
  clear hV1 hV2 u0 u1 u2 u3 u4 u5 u6 u7 u8 u9 u10 u11 u12 u13 u14 m2
  have HO1 := hidP (wakeTo_ok HO.out k m.epoch)
  have HFo := hidP (fun (V' : World) (hV' : Rep V' (Gap S w.heap.size (w.heap.size + 2)) b c lv ev uv mv) => follow_any hV' k hk m.epoch 1)
  by_cases c1 : (c.nodes k).follows < m.epoch
  · have HC1 := hidP (show wakeTo c k m.epoch = follow c k m.epoch 1 by unfold wakeTo; rw [if_pos (Or.inl c1)])
    go_wp2_with fail
    refine (HFo.out V HVR.out).mono ?_
    rintro e V1 ⟨rfl, hR1, hF1⟩
    have HH1 := hidP (HV2.out.same hF1)
    have HF1 := hidP (show Fr S w V1 from (Fr.below HV1.out).trans (hF1.mono fun q e => Gap.ext (by omega) q e))
    have HR1 : Hid (Rep V1 (Gap S w.heap.size (w.heap.size + 2)) b (wakeTo c k m.epoch) lv ev uv mv) := by show Rep V1 _ b (wakeTo c k m.epoch) lv ev uv mv; rw [HC1.out]; exact hR1
    clear hR1 hF1
    have g2 := HH1.out.m2
    have hlt1 := HR1.out.lt
    clear e2 e3 n1 n2 n3
    generalize hc1 : wakeTo c k m.epoch = c1 at HR1 HC1 HO1
    have r3 := HR1.out.cRol k hk
    have HTS := hidP (show takeStart c k m = startOn c1 k by unfold takeStart; rw [hc1])
    clear hc1
    by_cases q1 : (c1.nodes k).role = 1
    · have HT := hidP (show startOn c1 k = sendReads c1 k by unfold startOn; rw [if_pos q1])
      rw [q1] at r3
      clear q1
      go_wp2_with fail
      go_quiet (fail)
      go_wp2_with fail
      refine (sendReads_any (w := V1.drewN nq) (HR1.out.same fun _ _ _ => rfl) HO1.out k hk).mono ?_
      rintro e w3 ⟨rfl, ⟨uv3, mv3, hR3⟩, hF3⟩
      have HR3 := hidP hR3
      have HF3 := hidP hF3
      clear hR3 hF3
      go_wp2
      exact bodyPost_end (results_none rfl _ _ _) rfl ⟨rfl, ⟨_, _, by
        rw [HTS.out, HT.out]
        exact HR3.out.mono fun q _ e => e.elim (fun e => Gap.ext (by omega) q e) fun e => Or.inr (Nat.le_trans HF1.out.size e)⟩, (HF1.out.then (Fr.drewP _ _ nq)).trans (HF3.out.mono fun q e => Gap.ext (by omega) q e)⟩
    by_cases q2 : (c1.nodes k).role = 2
    · have HT := hidP (show startOn c1 k = handOn c1 k by unfold startOn; rw [if_neg q1, if_pos q2])
      rw [q2] at r3
      clear q1 q2
      go_wp2_with fail
      go_quiet (fail)
      go_wp2_with fail
      refine (handOn_any (w := V1.drewN nq) (HR1.out.same fun _ _ _ => rfl) HO1.out k hk).mono ?_
      rintro e w3 ⟨rfl, ⟨uv3, mv3, hR3⟩, hF3⟩
      have HR3 := hidP hR3
      have HF3 := hidP hF3
      clear hR3 hF3
      go_wp2
      exact bodyPost_end (results_none rfl _ _ _) rfl ⟨rfl, ⟨_, _, by
        rw [HTS.out, HT.out]
        exact HR3.out.mono fun q _ e => e.elim (fun e => Gap.ext (by omega) q e) fun e => Or.inr (Nat.le_trans HF1.out.size e)⟩, (HF1.out.then (Fr.drewP _ _ nq)).trans (HF3.out.mono fun q e => Gap.ext (by omega) q e)⟩
    have HT := hidP (show startOn c1 k = c1 by unfold startOn; rw [if_neg q1, if_neg q2])
    have b1 : ((c1.nodes k).role == 1) = false := by simp [q1]
    have b2 : ((c1.nodes k).role == 2) = false := by simp [q2]
    clear q1 q2
    go_wp2_with fail
    go_quiet (fail)
    go_wp2
    exact bodyPost_end (results_none rfl _ _ _) rfl ⟨rfl, ⟨_, _, by
      rw [HTS.out, HT.out]
      exact (HR1.out.mono (S' := Ext S w) fun q _ e => Gap.ext (by omega) q e).same fun _ _ _ => rfl⟩, HF1.out.then (Fr.drewP _ _ nq)⟩
  by_cases c2 : (c.nodes k).role = 0
  · have bb : ((c.nodes k).role == 0) = true := by simp [c2]
    by_cases c3 : (c.nodes k).given < m.epoch
    · have HC1 := hidP (show wakeTo c k m.epoch = follow c k m.epoch 1 by unfold wakeTo; rw [if_pos (Or.inr ⟨c2, c3⟩)])
      clear c2
      go_wp2_with fail
      refine (HFo.out V HVR.out).mono ?_
      rintro e V1 ⟨rfl, hR1, hF1⟩
      have HH1 := hidP (HV2.out.same hF1)
      have HF1 := hidP (show Fr S w V1 from (Fr.below HV1.out).trans (hF1.mono fun q e => Gap.ext (by omega) q e))
      have HR1 : Hid (Rep V1 (Gap S w.heap.size (w.heap.size + 2)) b (wakeTo c k m.epoch) lv ev uv mv) := by show Rep V1 _ b (wakeTo c k m.epoch) lv ev uv mv; rw [HC1.out]; exact hR1
      clear hR1 hF1
      have g2 := HH1.out.m2
      have hlt1 := HR1.out.lt
      clear e2 e3 n1 n2 n3
      generalize hc1 : wakeTo c k m.epoch = c1 at HR1 HC1 HO1
      have r3 := HR1.out.cRol k hk
      have HTS := hidP (show takeStart c k m = startOn c1 k by unfold takeStart; rw [hc1])
      clear hc1
      by_cases q1 : (c1.nodes k).role = 1
      · have HT := hidP (show startOn c1 k = sendReads c1 k by unfold startOn; rw [if_pos q1])
        rw [q1] at r3
        clear q1
        go_wp2_with fail
        go_quiet (fail)
        go_wp2_with fail
        refine (sendReads_any (w := V1.drewN nq) (HR1.out.same fun _ _ _ => rfl) HO1.out k hk).mono ?_
        rintro e w3 ⟨rfl, ⟨uv3, mv3, hR3⟩, hF3⟩
        have HR3 := hidP hR3
        have HF3 := hidP hF3
        clear hR3 hF3
        go_wp2
        exact bodyPost_end (results_none rfl _ _ _) rfl ⟨rfl, ⟨_, _, by
          rw [HTS.out, HT.out]
          exact HR3.out.mono fun q _ e => e.elim (fun e => Gap.ext (by omega) q e) fun e => Or.inr (Nat.le_trans HF1.out.size e)⟩, (HF1.out.then (Fr.drewP _ _ nq)).trans (HF3.out.mono fun q e => Gap.ext (by omega) q e)⟩
      by_cases q2 : (c1.nodes k).role = 2
      · have HT := hidP (show startOn c1 k = handOn c1 k by unfold startOn; rw [if_neg q1, if_pos q2])
        rw [q2] at r3
        clear q1 q2
        go_wp2_with fail
        go_quiet (fail)
        go_wp2_with fail
        refine (handOn_any (w := V1.drewN nq) (HR1.out.same fun _ _ _ => rfl) HO1.out k hk).mono ?_
        rintro e w3 ⟨rfl, ⟨uv3, mv3, hR3⟩, hF3⟩
        have HR3 := hidP hR3
        have HF3 := hidP hF3
        clear hR3 hF3
        go_wp2
        exact bodyPost_end (results_none rfl _ _ _) rfl ⟨rfl, ⟨_, _, by
          rw [HTS.out, HT.out]
          exact HR3.out.mono fun q _ e => e.elim (fun e => Gap.ext (by omega) q e) fun e => Or.inr (Nat.le_trans HF1.out.size e)⟩, (HF1.out.then (Fr.drewP _ _ nq)).trans (HF3.out.mono fun q e => Gap.ext (by omega) q e)⟩
      have HT := hidP (show startOn c1 k = c1 by unfold startOn; rw [if_neg q1, if_neg q2])
      have b1 : ((c1.nodes k).role == 1) = false := by simp [q1]
      have b2 : ((c1.nodes k).role == 2) = false := by simp [q2]
      clear q1 q2
      go_wp2_with fail
      go_quiet (fail)
      go_wp2
      exact bodyPost_end (results_none rfl _ _ _) rfl ⟨rfl, ⟨_, _, by
        rw [HTS.out, HT.out]
        exact (HR1.out.mono (S' := Ext S w) fun q _ e => Gap.ext (by omega) q e).same fun _ _ _ => rfl⟩, HF1.out.then (Fr.drewP _ _ nq)⟩
    · have HC1 := hidP (show wakeTo c k m.epoch = c by unfold wakeTo; rw [if_neg (fun x => x.elim c1 fun x => c3 x.2)])
      clear c2
      have HH1 := hidP HV2.out
      have HF1 := hidP (show Fr S w V from Fr.below HV1.out)
      have HR1 : Hid (Rep V (Gap S w.heap.size (w.heap.size + 2)) b (wakeTo c k m.epoch) lv ev uv mv) := by show Rep V _ b (wakeTo c k m.epoch) lv ev uv mv; rw [HC1.out]; exact HVR.out
      have g2 := HH1.out.m2
      have hlt1 := HR1.out.lt
      generalize hc1 : wakeTo c k m.epoch = c1 at HR1 HC1 HO1
      have r3 := HR1.out.cRol k hk
      have HTS := hidP (show takeStart c k m = startOn c1 k by unfold takeStart; rw [hc1])
      clear hc1
      by_cases q1 : (c1.nodes k).role = 1
      · have HT := hidP (show startOn c1 k = sendReads c1 k by unfold startOn; rw [if_pos q1])
        rw [q1] at r3
        clear q1
        go_wp2_with fail
        go_quiet (fail)
        go_wp2_with fail
        refine (sendReads_any (w := V.drewN nq) (HR1.out.same fun _ _ _ => rfl) HO1.out k hk).mono ?_
        rintro e w3 ⟨rfl, ⟨uv3, mv3, hR3⟩, hF3⟩
        have HR3 := hidP hR3
        have HF3 := hidP hF3
        clear hR3 hF3
        go_wp2
        exact bodyPost_end (results_none rfl _ _ _) rfl ⟨rfl, ⟨_, _, by
          rw [HTS.out, HT.out]
          exact HR3.out.mono fun q _ e => e.elim (fun e => Gap.ext (by omega) q e) fun e => Or.inr (Nat.le_trans HF1.out.size e)⟩, (HF1.out.then (Fr.drewP _ _ nq)).trans (HF3.out.mono fun q e => Gap.ext (by omega) q e)⟩
      by_cases q2 : (c1.nodes k).role = 2
      · have HT := hidP (show startOn c1 k = handOn c1 k by unfold startOn; rw [if_neg q1, if_pos q2])
        rw [q2] at r3
        clear q1 q2
        go_wp2_with fail
        go_quiet (fail)
        go_wp2_with fail
        refine (handOn_any (w := V.drewN nq) (HR1.out.same fun _ _ _ => rfl) HO1.out k hk).mono ?_
        rintro e w3 ⟨rfl, ⟨uv3, mv3, hR3⟩, hF3⟩
        have HR3 := hidP hR3
        have HF3 := hidP hF3
        clear hR3 hF3
        go_wp2
        exact bodyPost_end (results_none rfl _ _ _) rfl ⟨rfl, ⟨_, _, by
          rw [HTS.out, HT.out]
          exact HR3.out.mono fun q _ e => e.elim (fun e => Gap.ext (by omega) q e) fun e => Or.inr (Nat.le_trans HF1.out.size e)⟩, (HF1.out.then (Fr.drewP _ _ nq)).trans (HF3.out.mono fun q e => Gap.ext (by omega) q e)⟩
      have HT := hidP (show startOn c1 k = c1 by unfold startOn; rw [if_neg q1, if_neg q2])
      have b1 : ((c1.nodes k).role == 1) = false := by simp [q1]
      have b2 : ((c1.nodes k).role == 2) = false := by simp [q2]
      clear q1 q2
      go_wp2_with fail
      go_quiet (fail)
      go_wp2
      exact bodyPost_end (results_none rfl _ _ _) rfl ⟨rfl, ⟨_, _, by
        rw [HTS.out, HT.out]
        exact (HR1.out.mono (S' := Ext S w) fun q _ e => Gap.ext (by omega) q e).same fun _ _ _ => rfl⟩, HF1.out.then (Fr.drewP _ _ nq)⟩
  · have bb : ((c.nodes k).role == 0) = false := by simp [c2]
    have HC1 := hidP (show wakeTo c k m.epoch = c by unfold wakeTo; rw [if_neg (fun x => x.elim c1 fun x => c2 x.1)])
    clear c2
    have HH1 := hidP HV2.out
    have HF1 := hidP (show Fr S w V from Fr.below HV1.out)
    have HR1 : Hid (Rep V (Gap S w.heap.size (w.heap.size + 2)) b (wakeTo c k m.epoch) lv ev uv mv) := by show Rep V _ b (wakeTo c k m.epoch) lv ev uv mv; rw [HC1.out]; exact HVR.out
    have g2 := HH1.out.m2
    have hlt1 := HR1.out.lt
    generalize hc1 : wakeTo c k m.epoch = c1 at HR1 HC1 HO1
    have r3 := HR1.out.cRol k hk
    have HTS := hidP (show takeStart c k m = startOn c1 k by unfold takeStart; rw [hc1])
    clear hc1
    by_cases q1 : (c1.nodes k).role = 1
    · have HT := hidP (show startOn c1 k = sendReads c1 k by unfold startOn; rw [if_pos q1])
      rw [q1] at r3
      clear q1
      go_wp2_with fail
      go_quiet (fail)
      go_wp2_with fail
      refine (sendReads_any (w := V.drewN nq) (HR1.out.same fun _ _ _ => rfl) HO1.out k hk).mono ?_
      rintro e w3 ⟨rfl, ⟨uv3, mv3, hR3⟩, hF3⟩
      have HR3 := hidP hR3
      have HF3 := hidP hF3
      clear hR3 hF3
      go_wp2
      exact bodyPost_end (results_none rfl _ _ _) rfl ⟨rfl, ⟨_, _, by
        rw [HTS.out, HT.out]
        exact HR3.out.mono fun q _ e => e.elim (fun e => Gap.ext (by omega) q e) fun e => Or.inr (Nat.le_trans HF1.out.size e)⟩, (HF1.out.then (Fr.drewP _ _ nq)).trans (HF3.out.mono fun q e => Gap.ext (by omega) q e)⟩
    by_cases q2 : (c1.nodes k).role = 2
    · have HT := hidP (show startOn c1 k = handOn c1 k by unfold startOn; rw [if_neg q1, if_pos q2])
      rw [q2] at r3
      clear q1 q2
      go_wp2_with fail
      go_quiet (fail)
      go_wp2_with fail
      refine (handOn_any (w := V.drewN nq) (HR1.out.same fun _ _ _ => rfl) HO1.out k hk).mono ?_
      rintro e w3 ⟨rfl, ⟨uv3, mv3, hR3⟩, hF3⟩
      have HR3 := hidP hR3
      have HF3 := hidP hF3
      clear hR3 hF3
      go_wp2
      exact bodyPost_end (results_none rfl _ _ _) rfl ⟨rfl, ⟨_, _, by
        rw [HTS.out, HT.out]
        exact HR3.out.mono fun q _ e => e.elim (fun e => Gap.ext (by omega) q e) fun e => Or.inr (Nat.le_trans HF1.out.size e)⟩, (HF1.out.then (Fr.drewP _ _ nq)).trans (HF3.out.mono fun q e => Gap.ext (by omega) q e)⟩
    have HT := hidP (show startOn c1 k = c1 by unfold startOn; rw [if_neg q1, if_neg q2])
    have b1 : ((c1.nodes k).role == 1) = false := by simp [q1]
    have b2 : ((c1.nodes k).role == 2) = false := by simp [q2]
    clear q1 q2
    go_wp2_with fail
    go_quiet (fail)
    go_wp2
    exact bodyPost_end (results_none rfl _ _ _) rfl ⟨rfl, ⟨_, _, by
      rw [HTS.out, HT.out]
      exact (HR1.out.mono (S' := Ext S w) fun q _ e => Gap.ext (by omega) q e).same fun _ _ _ => rfl⟩, HF1.out.then (Fr.drewP _ _ nq)⟩
end
end Go.Proofs.Ythpjcmilfipbaaa
