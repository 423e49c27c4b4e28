/- My own text: several texts in one. -/
import Derived.Test.YthpjcmilfipbaaaP6
namespace Go.Proofs.Ythpjcmilfipbaaa
set_option linter.unusedVariables false
set_option linter.unusedSimpArgs false
open Go.RowKit
theorem putHas_ok {c : Clu} (h : Ok c) (k f : Nat) : Ok (putHas c k f) :=
  ⟨fun i hi => by show (upd c.nodes k _ i).log.length ≤ 60; rw [upd_log (n := c.nodes) (by rfl)]; exact h.log i hi, h.ways, h.eps, h.mem⟩
section
variable {w : World} {S : Nat → Prop} {b : Nat} {c : Clu} {lv : Nat → Value} {ev uv : Value} {mv : List (Msg × Value)}
set_option maxHeartbeats 16000000 in
set_option maxRecDepth 100000 in
theorem takeHave_any (h : Rep w S b c lv ev uv mv) (hok : Ok c) (k : Nat) (hk : k < 5) (m : Msg) (hto : m.to = k) (f : Nat) (hf5 : f < 5) (hfr : m.frm = f) (ro : Option Addr) (rl rc : Nat) :
    Calls Try.prog 95 #[.pointer (some ⟨b, 0, none⟩), msgVal m (.slice ro rl rc)] w fun e w' =>
      e = .returned (.tuple #[]) ∧ (∃ lv' uv' mv', Rep w' (Ext S w) b (takeHave c k m) lv' ev uv' mv') ∧ Fr S w w' := by
  unfold msgVal
  rw [hto]
  have HFR := hidP hfr
  have hf0 : (0 : Int) ≤ (f : Int) := by omega
  have hf1 : (f : Int) < 5 := by omega
  have hnb : nodeB (f : Int) = true := by simp [nodeB]; omega
  clear hfr
  have HOG := hidP (putHas_ok hok k f)
  obtain ⟨ao, cap, hlv, hcap, _, hpos⟩ := ownsRow_shape (h.logs k hk)
  have hb := h.lt
  have H := hidP h
  have HO := hidP hok
  have HL := hidP hlv
  have hk0 : (0 : Int) ≤ (k : Int) := by omega
  have hk1 : (k : Int) < 5 := by omega
  clear h hok hlv hpos hcap hto
  go_enter Try.func95, Try.ntmps95
  go_wp2_with fail
  refine wp_genP (fun W => Below w.heap.size w W ∧ W.heap.size = w.heap.size + 1 ∧ W.heap[w.heap.size]? = some (.cells #[.int .i64 m.kind, .int .i64 m.frm, .int .i64 k, .int .i64 m.epoch, .int .i64 m.n, .slice ro rl rc] 101)) ⟨(Below.refl _ _).alloc (Nat.le_refl _) _, by simp, heap_alloc_new w _⟩ ?_
  rintro W ⟨hW2, hW3, hW4⟩
  have hW1 : Rep W S b c lv ev uv mv := H.out.below hW2
  obtain ⟨u0, u1, u2, u3, u4⟩ := hW1.node k hk
  obtain ⟨u5, u6, u7, u8, u9⟩ := hW1.nodeHas k hk
  obtain ⟨u10, u11, u12, u13, u14⟩ := hW1.nodeKno k hk
  have m2 : W.cell? ⟨w.heap.size, 2, none⟩ = some (.int .i64 k) := (cell_of_row _ _ _ _ _ _ hW4).trans rfl
  rw [HL.out] at u4
  have hbW := hW1.lt
  have hmW : w.heap.size < W.heap.size := by omega
  have HW2 := hidP hW2
  have HW3 := hidP hW3
  have HW4 := hidP hW4
  clear hW1 hW2 hW3 hW4
  go_region
  refine exit_gen (fun V => Below w.heap.size w V ∧ Held w V k m (c.nodes k) (.slice ao (c.nodes k).log.length cap) ro rl rc) ⟨(HW2.out.alloc (by omega) _).drew, ⟨by simp; have := HW3.out; omega, (Below.heap_alloc _ _ _ hmW).trans HW4.out, by have := HW3.out; rw [← this]; exact heap_alloc_new W _⟩⟩ ?_
  rintro V ⟨hV1, hV2⟩
  have n1 : V.cell? ⟨W.heap.size, 1, none⟩ = some (.int .i64 (c.nodes k).follows) := by rw [HW3.out]; exact (cell_of_row _ _ _ _ _ _ hV2.nod).trans rfl
  have n2 : V.cell? ⟨W.heap.size, 2, none⟩ = some (.int .i64 (c.nodes k).given) := by rw [HW3.out]; exact (cell_of_row _ _ _ _ _ _ hV2.nod).trans rfl
  have n3 : V.cell? ⟨W.heap.size, 3, none⟩ = some (.int .i64 (c.nodes k).role) := by rw [HW3.out]; exact (cell_of_row _ _ _ _ _ _ hV2.nod).trans rfl
  have n4 : V.cell? ⟨W.heap.size, 4, none⟩ = some (.slice ao (c.nodes k).log.length cap) := by rw [HW3.out]; exact (cell_of_row _ _ _ _ _ _ hV2.nod).trans rfl
  have e0 := hV2.m0
  have e1 := hV2.m1
  have e2 := hV2.m2
  have e3 := hV2.m3
  have e4 := hV2.m4
  have e5 := hV2.m5
  have hVs := hV2.size
  have HV1 := hidP hV1
  have HV2 := hidP hV2
  have HVR := hidP (H.out.gap hV1 (w.heap.size + 2))
  clear hV1 hV2 u0 u1 u2 u3 u4 u5 u6 u7 u8 u9 u10 u11 u12 u13 u14 m2
  rw [HFR.out] at e1
  by_cases hcond : (c.nodes k).follows = m.epoch ∧ (c.nodes k).role = 2
  · have HT := hidP (show takeHave c k m = if allHave (putHas c k f) k then sendReady (putHas c k f) k else putHas c k f by unfold takeHave; rw [HFR.out, if_pos ⟨hcond.1, hcond.2, hnb⟩]; rfl)
    have bf : ((c.nodes k).follows != m.epoch) = false := by simp [hcond.1]
    have br : ((c.nodes k).role != 2) = false := by simp [hcond.2]
    clear hcond
    have r3 := HVR.out.cHas k f hk hf5
    have z3 := HVR.out.free (k * 15 + 5 + f)
    have hlt2 := HVR.out.lt
    have hbm : ¬ w.heap.size = b := by omega
    have HS := hidP (HVR.out.setHas k hk f hf5 true)
    have nbm : ¬ b = w.heap.size := by omega
    go_wp2_with (first | (go_at_call 51; refine (isNode_any _ _).mono ?_; rintro e w' ⟨rfl, hw1⟩; rw [hw1]; clear hw1))
    go_region
    have HR3 : Hid (Rep (World.setCell V ⟨b, k * 15 + 5 + f, none⟩ (.bool true)).drew (Gap S w.heap.size (w.heap.size + 2)) b (putHas c k f) lv ev uv mv) := HS.out.1.drew
    have HF3 := hidP (show Fr S w _ from ((Fr.below HV1.out).trans (HS.out.2.mono fun q e => Gap.ext (by omega) q e)).then (Fr.drew _ _))
    have hbk : (World.setCell V ⟨b, k * 15 + 5 + f, none⟩ (.bool true)).drew.heap[w.heap.size]? = V.heap[w.heap.size]? := Below.heap_setCell _ _ _ _ hbm
    have g2 := (World.cell?_of_block (a := ⟨w.heap.size, 2, none⟩) hbk).trans e2
    have HA := hidP (allHave_any HR3.out HOG.out k hk)
    clear hbk r3 z3 n1 n2 n3 n4 e0 e1 e3 e4 e5
    have hsz : (World.setCell V ⟨b, k * 15 + 5 + f, none⟩ (.bool true)).drew.heap.size = V.heap.size := by simp [World.setCell]
    have hms : w.heap.size < (World.setCell V ⟨b, k * 15 + 5 + f, none⟩ (.bool true)).drew.heap.size := by rw [hsz]; omega
    clear hsz
    cases ha : allHave (putHas c k f) k
    · rw [ha] at HT
      go_wp2_with (first | (go_at_call 108; refine HA.out.mono ?_; rintro e w4 ⟨rfl, hB4⟩; have HB4 := hidP hB4; clear hB4))
      exact bodyPost_end (results_none rfl _ _ _) rfl ⟨rfl, ⟨_, _, _, by
        rw [HT.out]
        exact (HR3.out.below HB4.out).mono fun q _ e => Gap.ext (by omega) q e⟩, HF3.out.then (Fr.below HB4.out)⟩
    · rw [ha] at HT
      go_wp2_with (first | (go_at_call 108; refine HA.out.mono ?_; rintro e w4 ⟨rfl, hB4⟩; have HB4 := hidP hB4; have g2' := (World.cell?_of_block (a := ⟨w.heap.size, 2, none⟩) (hB4.block _ hms)).trans g2; clear hB4))
      refine (sendReady_any (HR3.out.below HB4.out) HOG.out k hk).mono ?_
      rintro e w5 ⟨rfl, ⟨uv5, mv5, hR5⟩, hF5⟩
      have HR5 := hidP hR5
      have HF5 := hidP hF5
      have HF4 := hidP (HF3.out.then (Fr.below HB4.out))
      clear hR5 hF5
      go_wp2
      exact bodyPost_end (results_none rfl _ _ _) rfl ⟨rfl, ⟨_, _, _, by
        rw [HT.out]
        exact HR5.out.mono fun q _ e => e.elim (fun e => Gap.ext (by omega) q e) fun e => Or.inr (Nat.le_trans HF4.out.size e)⟩, HF4.out.trans (HF5.out.mono fun q e => Gap.ext (by omega) q e)⟩
  · have HT := hidP (show takeHave c k m = c by unfold takeHave; rw [if_neg (fun x => hcond ⟨x.1, x.2.1⟩)])
    cases hf : ((c.nodes k).follows != m.epoch)
    · have hr : ((c.nodes k).role != 2) = true := by
        simp at hf ⊢
        exact fun x => hcond ⟨hf, x⟩
      clear hcond
      go_wp2_with (first | (go_at_call 51; refine (isNode_any _ _).mono ?_; rintro e w' ⟨rfl, hw1⟩; rw [hw1]; clear hw1))
      exact bodyPost_ret (results_none rfl _ _ _) rfl ⟨rfl, ⟨_, _, _, by rw [HT.out]; exact HVR.out.mono fun q _ e => Gap.ext (by omega) q e⟩, Fr.below HV1.out⟩
    · clear hcond
      go_wp2_with (first | (go_at_call 51; refine (isNode_any _ _).mono ?_; rintro e w' ⟨rfl, hw1⟩; rw [hw1]; clear hw1))
      exact bodyPost_ret (results_none rfl _ _ _) rfl ⟨rfl, ⟨_, _, _, by rw [HT.out]; exact HVR.out.mono fun q _ e => Gap.ext (by omega) q e⟩, Fr.below HV1.out⟩
end
end Go.Proofs.Ythpjcmilfipbaaa

namespace Go.Proofs.Ythpjcmilfipbaaa
set_option linter.unusedVariables false
set_option linter.unusedSimpArgs false
open Go.RowKit
section
variable {w : World} {S : Nat → Prop} {b : Nat} {c : Clu} {lv : Nat → Value} {ev uv : Value} {mv : List (Msg × Value)}
set_option maxHeartbeats 3200000 in
set_option maxRecDepth 100000 in
theorem follow_at (h : Rep w S b c lv ev uv mv) (k : Nat) (hk : k < 5) (ep role : Int) :
    Calls Try.prog 103 #[.pointer (some ⟨b, 0, none⟩), .int .i64 k, .int .i64 ep, .int .i64 role] w fun e w' =>
      e = .returned (.tuple #[]) ∧ Rep w' S b (follow c k ep role) lv ev uv mv ∧ Fr (fun q => q = b) w w' := by
  obtain ⟨u0, u1, u2, u3, u4⟩ := h.node k hk
  obtain ⟨u5, u6, u7, u8, u9⟩ := h.nodeHas k hk
  obtain ⟨u10, u11, u12, u13, u14⟩ := h.nodeKno k hk
  obtain ⟨ao, cap, hlv, hcap, _, hpos⟩ := ownsRow_shape (h.logs k hk)
  rw [hlv] at u4
  have hb := h.lt
  have H := hidP h
  have HL := hidP hlv
  have hk0 : (0 : Int) ≤ (k : Int) := by omega
  have hk1 : (k : Int) < 5 := by omega
  have nb : ¬ b = w.heap.size := by omega
  clear h hlv hpos hcap
  go_enter Try.func103, Try.ntmps103
  go_wp2_with fail
  refine wp_genP (fun W => Rep W S b c lv ev uv mv ∧ Below w.heap.size w W ∧ W.heap[w.heap.size]? = some (.cells (ndRow (c.nodes k) (.slice ao (c.nodes k).log.length cap)).toArray 89)) ⟨H.out.alloc _, (Below.refl _ _).alloc (Nat.le_refl _) _, heap_alloc_new w _⟩ ?_
  rintro W ⟨hW1, hW2, hW3⟩
  have n0 : W.cell? ⟨w.heap.size, 0, none⟩ = some (.bool (c.nodes k).up) := (cell_of_row _ _ _ _ _ _ hW3).trans rfl
  have n2 : W.cell? ⟨w.heap.size, 2, none⟩ = some (.int .i64 (c.nodes k).given) := (cell_of_row _ _ _ _ _ _ hW3).trans rfl
  have n4 : W.cell? ⟨w.heap.size, 4, none⟩ = some (.slice ao (c.nodes k).log.length cap) := (cell_of_row _ _ _ _ _ _ hW3).trans rfl
  clear u0 u1 u2 u3 u4 u5 u6 u7 u8 u9 u10 u11 u12 u13 u14
  obtain ⟨u0, u1, u2, u3, u4⟩ := hW1.node k hk
  obtain ⟨u5, u6, u7, u8, u9⟩ := hW1.nodeHas k hk
  obtain ⟨u10, u11, u12, u13, u14⟩ := hW1.nodeKno k hk
  have z := fun o => hW1.free (k * 15 + o)
  have z0 := z 0; have z1 := z 1; have z2 := z 2; have z3 := z 3; have z4 := z 4; have z5 := z 5; have z6 := z 6; have z7 := z 7; have z8 := z 8; have z9 := z 9
  have z10 := z 10; have z11 := z 11; have z12 := z 12; have z13 := z 13; have z14 := z 14
  rw [Nat.add_zero] at z0
  rw [HL.out] at u4
  have HD := hidP (hW1.putNode k hk (followNd (c.nodes k) ep role) rfl)
  rw [HL.out] at HD
  have HW2 := hidP hW2
  have HD2 := hidP (setCells_fr (S := fun q => q = b) (ndRow (followNd (c.nodes k) ep role) (.slice ao (c.nodes k).log.length cap)) W b (k * 15) rfl)
  clear hW1 hW2 hW3 z
  go_region
  exact bodyPost_end (results_none rfl _ _ _) rfl ⟨rfl, HD.out.1.drew, (Fr.below HW2.out).then (HD2.out.then (Fr.drew _ _))⟩
set_option maxHeartbeats 16000000 in
set_option maxRecDepth 100000 in
theorem takeState_any (h : Rep w S b c lv ev uv mv) (hok : Ok c) (k : Nat) (hk : k < 5) (m : Msg) (hto : m.to = k) (ro : Option Addr) (rc : Nat) (hrv : w.ownsRow 0 36 3 (.slice ro m.recs.length rc) m.recs.length (recCells m.recs)) (hl : m.recs.length ≤ 60) :
    Calls Try.prog 94 #[.pointer (some ⟨b, 0, none⟩), msgVal m (.slice ro m.recs.length rc)] w fun e w' =>
      e = .returned (.tuple #[]) ∧ (∃ lv' uv' mv', Rep w' (Ext S w) b (takeState c k m) lv' ev uv' mv') ∧ Fr S w w' := by
  have hnb : ∀ g, (Value.slice ro m.recs.length rc).ownBlock = some g → g ≠ b := by
    intro g hg
    obtain ⟨cs, hbl, _⟩ := h.blk
    obtain ⟨cu, hcu⟩ := ownsRow_block hrv hg
    exact ne_of_type hcu hbl (by decide)
  have HRV := hidP (fun (V : World) (hV : Fr (fun q => q = b) w V) => ownsRow_same (w' := V) hrv fun g hg hl => hV.block g hl (hnb g hg))
  have HTL := hidP (fun (V : World) (S' : Nat → Prop) (c' : Clu) (hR : Rep V S' b c' lv ev uv mv) (hO : Ok c') (hV : Fr (fun q => q = b) w V) => takeLog_any hR hO k hk m hto ro rc (ownsRow_same (w' := V) hrv fun g hg hl => hV.block g hl (hnb g hg)) hl)
  unfold msgVal at HTL ⊢
  rw [hto] at HTL ⊢
  have hb := h.lt
  have H := hidP h
  have HO := hidP hok
  have hk0 : (0 : Int) ≤ (k : Int) := by omega
  have hk1 : (k : Int) < 5 := by omega
  have HT := hidP (show takeState c k m = send (give0 (follow0 c k m.epoch) k m) (haveMsg k m) from rfl)
  have HO1 := hidP (follow0_ok hok k m.epoch)
  have HO2 := hidP (give0_ok (follow0_ok hok k m.epoch) k m hl)
  clear h hok hrv hnb
  generalize m.recs.length = rl at *
  go_enter Try.func94, Try.ntmps94
  go_wp2_with fail
  refine wp_genP (fun W => Below w.heap.size w W ∧ Kept1 w W k m ro rl rc) ⟨(Below.refl _ _).alloc (Nat.le_refl _) _, by simp, heap_alloc_new w _⟩ ?_
  rintro W ⟨hW2, hW4⟩
  have hW1 := H.out.gap hW2 (w.heap.size + 1)
  have u1 := hW1.cFol k hk
  have m2 := hW4.m2
  have m3 := hW4.m3
  have hbW := hW1.lt
  have hmW := hW4.size
  have HW1 := hidP hW1
  have HW2 := hidP hW2
  have HW4 := hidP hW4
  clear hW1 hW2 hW4
  by_cases c1 : (c.nodes k).follows < m.epoch
  · have HC1 := hidP (show follow0 c k m.epoch = follow c k m.epoch 0 by unfold follow0; rw [if_pos c1])
    go_quiet (fail)
    go_wp2_with fail
    refine (follow_at (w := W.drewN nq) (HW1.out.same fun _ _ _ => rfl) k hk m.epoch 0).mono ?_
    rintro e V1 ⟨rfl, hR1, hF1⟩
    have hF1 : Fr (fun q => q = b) W V1 := (Fr.drewQ _ W nq).then hF1
    have HB1 := hidP (show Fr (fun q => q = b) w V1 from (Fr.below HW2.out).then hF1)
    have hF2 : Fr (Gap S w.heap.size (w.heap.size + 1)) W V1 := hF1.mono fun q e => by rw [e]; exact HW1.out.inb
    have HH1 := hidP (HW4.out.same hF2)
    have HR1 : Hid (Rep V1 (Gap S w.heap.size (w.heap.size + 1)) b (follow0 c k m.epoch) lv ev uv mv) := by show Rep V1 _ b (follow0 c k m.epoch) lv ev uv mv; rw [HC1.out]; exact hR1
    have HF1 := hidP (show Fr S w V1 from (Fr.below HW2.out).trans (hF2.mono fun q e => Gap.ext (by omega) q e))
    clear hR1 hF1 hF2 u1 m2 m3 c1 HC1
    generalize hc2 : follow0 c k m.epoch = c2 at HR1 HO1 HO2 HT
    clear hc2
    have r2 := HR1.out.cGiv k hk
    have g0 := HH1.out.m0
    have g1 := HH1.out.m1
    have g2 := HH1.out.m2
    have g3 := HH1.out.m3
    have g4 := HH1.out.m4
    have g5 := HH1.out.m5
    have hlt1 := HR1.out.lt
    have hms1 := HH1.out.size
    by_cases c3 : (c2.nodes k).given < m.epoch
    · have HC3 := hidP (show give0 c2 k m = giveLog c2 k m.recs m.epoch by unfold give0; rw [if_pos c3])
      go_wp2_with fail
      go_quiet (fail)
      go_wp2_with fail
      refine (HTL.out (V1.drewN nq) (Gap S w.heap.size (w.heap.size + 1)) c2 (HR1.out.same fun _ _ _ => rfl) HO1.out (HB1.out.then (Fr.drewQ _ V1 nq))).mono ?_
      rintro e V2 ⟨rfl, ⟨lv2, hR2⟩, hF2⟩
      have hF2 : Fr (Gap S w.heap.size (w.heap.size + 1)) V1 V2 := (Fr.drewQ _ V1 nq).then hF2
      have hR2 : Rep V2 (Gap S w.heap.size (w.heap.size + 1)) b (give0 c2 k m) lv2 ev uv mv := by rw [HC3.out]; exact hR2.mono fun q _ e => e.elim id fun e => Or.inr (Nat.le_trans hms1 e)
      have HH2 := hidP (HH1.out.same hF2)
      have HR2 := hidP hR2
      have HF2 := hidP (show Fr S w V2 from HF1.out.trans (hF2.mono fun q e => Gap.ext (by omega) q e))
      clear hF2 hR2 r2 g0 g1 g2 g3 g4 g5
      have g1 := HH2.out.m1
      have g2 := HH2.out.m2
      have g3 := HH2.out.m3
      go_wp2_with fail
      refine (send_any (w := V2) HR2.out HO2.out (haveMsg k m) (.slice none 0 0) ⟨rfl, Or.inl ⟨rfl, rfl⟩⟩ (fun g hg => by simp [Value.ownBlock] at hg) (fun k g _ hg => by simp [Value.ownBlock] at hg)).mono ?_
      rintro e w3 ⟨rfl, ⟨uv3, mv3, hR3⟩, hF3⟩
      have HR3 := hidP hR3
      have HF3 := hidP hF3
      clear hR3 hF3
      go_wp2
      exact bodyPost_end (results_none rfl _ _ _) rfl ⟨rfl, ⟨_, _, _, by
        rw [HT.out]
        exact HR3.out.mono fun q _ e => e.elim (fun e => Gap.ext (by omega) q e) fun e => Or.inr (Nat.le_trans HF2.out.size e)⟩, HF2.out.trans (HF3.out.mono fun q e => Gap.ext (by omega) q e)⟩
    · have HC3 := hidP (show give0 c2 k m = c2 by unfold give0; rw [if_neg c3])
      go_wp2_with fail
      go_quiet (fail)
      go_wp2_with fail
      refine (send_any (w := V1.drewN nq) (HR1.out.same fun _ _ _ => rfl) HO1.out (haveMsg k m) (.slice none 0 0) ⟨rfl, Or.inl ⟨rfl, rfl⟩⟩ (fun g hg => by simp [Value.ownBlock] at hg) (fun k g _ hg => by simp [Value.ownBlock] at hg)).mono ?_
      rintro e w3 ⟨rfl, ⟨uv3, mv3, hR3⟩, hF3⟩
      have HR3 := hidP hR3
      have HF3 := hidP hF3
      clear hR3 hF3
      go_wp2
      exact bodyPost_end (results_none rfl _ _ _) rfl ⟨rfl, ⟨_, _, _, by
        rw [HT.out, HC3.out]
        exact HR3.out.mono fun q _ e => e.elim (fun e => Gap.ext (by omega) q e) fun e => Or.inr (Nat.le_trans HF1.out.size e)⟩, (HF1.out.then (Fr.drewQ _ V1 nq)).trans (HF3.out.mono fun q e => Gap.ext (by omega) q e)⟩
  · have HC1 := hidP (show follow0 c k m.epoch = c by unfold follow0; rw [if_neg c1])
    go_quiet (fail)
    obtain ⟨V1, hV1⟩ : ∃ V1, V1 = W.drewN nq := ⟨_, rfl⟩
    have HB1 := hidP (show Fr (fun q => q = b) w V1 from hV1 ▸ (Fr.below HW2.out).then (Fr.drewQ _ W nq))
    have HH1 : Hid (Kept1 w V1 k m ro rl rc) := by show Kept1 w V1 k m ro rl rc; rw [hV1]; exact ⟨HW4.out.size, HW4.out.msg⟩
    have HR1 : Hid (Rep V1 (Gap S w.heap.size (w.heap.size + 1)) b (follow0 c k m.epoch) lv ev uv mv) := by show Rep V1 _ b (follow0 c k m.epoch) lv ev uv mv; rw [HC1.out, hV1]; exact HW1.out.same fun _ _ _ => rfl
    have HF1 := hidP (show Fr S w V1 from hV1 ▸ (Fr.below HW2.out).then (Fr.drewQ _ W nq))
    rw [← hV1]
    clear u1 m2 m3 c1 HC1 hV1
    generalize hc2 : follow0 c k m.epoch = c2 at HR1 HO1 HO2 HT
    clear hc2
    have r2 := HR1.out.cGiv k hk
    have g0 := HH1.out.m0
    have g1 := HH1.out.m1
    have g2 := HH1.out.m2
    have g3 := HH1.out.m3
    have g4 := HH1.out.m4
    have g5 := HH1.out.m5
    have hlt1 := HR1.out.lt
    have hms1 := HH1.out.size
    by_cases c3 : (c2.nodes k).given < m.epoch
    · have HC3 := hidP (show give0 c2 k m = giveLog c2 k m.recs m.epoch by unfold give0; rw [if_pos c3])
      go_wp2_with fail
      go_quiet (fail)
      go_wp2_with fail
      refine (HTL.out (V1.drewN nq) (Gap S w.heap.size (w.heap.size + 1)) c2 (HR1.out.same fun _ _ _ => rfl) HO1.out (HB1.out.then (Fr.drewQ _ V1 nq))).mono ?_
      rintro e V2 ⟨rfl, ⟨lv2, hR2⟩, hF2⟩
      have hF2 : Fr (Gap S w.heap.size (w.heap.size + 1)) V1 V2 := (Fr.drewQ _ V1 nq).then hF2
      have hR2 : Rep V2 (Gap S w.heap.size (w.heap.size + 1)) b (give0 c2 k m) lv2 ev uv mv := by rw [HC3.out]; exact hR2.mono fun q _ e => e.elim id fun e => Or.inr (Nat.le_trans hms1 e)
      have HH2 := hidP (HH1.out.same hF2)
      have HR2 := hidP hR2
      have HF2 := hidP (show Fr S w V2 from HF1.out.trans (hF2.mono fun q e => Gap.ext (by omega) q e))
      clear hF2 hR2 r2 g0 g1 g2 g3 g4 g5
      have g1 := HH2.out.m1
      have g2 := HH2.out.m2
      have g3 := HH2.out.m3
      go_wp2_with fail
      refine (send_any (w := V2) HR2.out HO2.out (haveMsg k m) (.slice none 0 0) ⟨rfl, Or.inl ⟨rfl, rfl⟩⟩ (fun g hg => by simp [Value.ownBlock] at hg) (fun k g _ hg => by simp [Value.ownBlock] at hg)).mono ?_
      rintro e w3 ⟨rfl, ⟨uv3, mv3, hR3⟩, hF3⟩
      have HR3 := hidP hR3
      have HF3 := hidP hF3
      clear hR3 hF3
      go_wp2
      exact bodyPost_end (results_none rfl _ _ _) rfl ⟨rfl, ⟨_, _, _, by
        rw [HT.out]
        exact HR3.out.mono fun q _ e => e.elim (fun e => Gap.ext (by omega) q e) fun e => Or.inr (Nat.le_trans HF2.out.size e)⟩, HF2.out.trans (HF3.out.mono fun q e => Gap.ext (by omega) q e)⟩
    · have HC3 := hidP (show give0 c2 k m = c2 by unfold give0; rw [if_neg c3])
      go_wp2_with fail
      go_quiet (fail)
      go_wp2_with fail
      refine (send_any (w := V1.drewN nq) (HR1.out.same fun _ _ _ => rfl) HO1.out (haveMsg k m) (.slice none 0 0) ⟨rfl, Or.inl ⟨rfl, rfl⟩⟩ (fun g hg => by simp [Value.ownBlock] at hg) (fun k g _ hg => by simp [Value.ownBlock] at hg)).mono ?_
      rintro e w3 ⟨rfl, ⟨uv3, mv3, hR3⟩, hF3⟩
      have HR3 := hidP hR3
      have HF3 := hidP hF3
      clear hR3 hF3
      go_wp2
      exact bodyPost_end (results_none rfl _ _ _) rfl ⟨rfl, ⟨_, _, _, by
        rw [HT.out, HC3.out]
        exact HR3.out.mono fun q _ e => e.elim (fun e => Gap.ext (by omega) q e) fun e => Or.inr (Nat.le_trans HF1.out.size e)⟩, (HF1.out.then (Fr.drewQ _ V1 nq)).trans (HF3.out.mono fun q e => Gap.ext (by omega) q e)⟩
end
end Go.Proofs.Ythpjcmilfipbaaa
