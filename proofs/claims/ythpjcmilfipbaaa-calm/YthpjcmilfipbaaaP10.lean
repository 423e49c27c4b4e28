/- My own text: several texts in one. -/
import Derived.Test.YthpjcmilfipbaaaP6
import Derived.Test.YthpjcmilfipbaaaP8
import Derived.Test.YthpjcmilfipbaaaP9
namespace Go.Proofs.Ythpjcmilfipbaaa
set_option linter.unusedVariables false
set_option linter.unusedSimpArgs false
open Go.RowKit
section
variable {w : World} {S : Nat → Prop} {b : Nat} {c : Clu} {lv : Nat → Value} {ev uv : Value} {mv : List (Msg × Value)}
set_option maxHeartbeats 800000 in
theorem areMembers_any (q : Int) (w : World) : Calls Try.prog 57 #[.int .i64 q] w fun e w' => e = .returned (.bool (memB q)) ∧ w' = w := by
  unfold memB
  by_cases h : 0 < q <;> by_cases h' : q < 32
  all_goals
    go_enter Try.func57, Try.ntmps57
    go_wp2
    go_ret
    exact ⟨by simp [h, h'], rfl⟩
set_option maxHeartbeats 3200000 in
set_option maxRecDepth 100000 in
theorem sendToLeader_any (h : Rep w S b c lv ev uv mv) (hok : Ok c) (kind : Int) :
    Calls Try.prog 59 #[.pointer (some ⟨b, 0, none⟩), .int .i64 kind] w fun e w' =>
      e = .returned (.tuple #[]) ∧ (∃ uv' mv', Rep w' (Ext S w) b (sendToLeader c kind) lv ev uv' mv') ∧ Fr S w w' := by
  have ue := h.cEps
  have hb := h.lt
  obtain ⟨ao, cap, hev, hcap, _, hpos⟩ := ownsRow_shape h.eps
  rw [hev] at ue
  have he40 := hok.eps
  have HE := hidP (epoch_any h hok c.epochs.length)
  unfold eraVal at HE
  have H := hidP h
  have HO := hidP hok
  clear h hok hev hpos hcap
  go_enter Try.func59, Try.ntmps59
  go_wp2_with fail
  refine HE.out.mono ?_
  rintro e w1 ⟨rfl, hB1⟩
  have HB1 := hidP hB1
  clear hB1 ue
  have HFin := hidP (show sendToLeader c kind = send c (toldMsg c kind) from rfl)
  go_wp2_with fail
  refine (send_any ((H.out.below HB1.out).alloc _) HO.out (toldMsg c kind) (.slice none 0 0) ⟨rfl, Or.inl ⟨rfl, rfl⟩⟩ (fun g hg => by simp [Value.ownBlock] at hg) (fun k g _ hg => by simp [Value.ownBlock] at hg)).mono ?_
  rintro e w3 ⟨rfl, ⟨uv3, mv3, hR3⟩, hF3⟩
  have HR3 := hidP hR3
  have HF3 := hidP hF3
  clear hR3 hF3
  go_wp2
  exact bodyPost_end (results_none rfl _ _ _) rfl ⟨rfl, ⟨_, _, by
    rw [HFin.out]
    exact HR3.out.mono fun q _ e => orR e fun e => Nat.le_trans HB1.out.size (Nat.le_trans (by simp) e)⟩, ((Fr.below HB1.out).then (Fr.alloc _ _ _)).then HF3.out⟩
set_option maxHeartbeats 3200000 in
set_option maxRecDepth 100000 in
theorem takeReady_any (h : Rep w S b c lv ev uv mv) (hok : Ok c) (m : Msg) (ro : Option Addr) (rl rc : Nat) :
    Calls Try.prog 90 #[.pointer (some ⟨b, 0, none⟩), msgVal m (.slice ro rl rc)] w fun e w' =>
      e = .returned (.tuple #[]) ∧ (∃ uv' mv', Rep w' (Ext S w) b (takeReady c m) lv ev uv' mv') ∧ Fr S w w' := by
  unfold msgVal
  have ue := h.cEps
  have hb := h.lt
  obtain ⟨ao, cap, hev, hcap, _, hpos⟩ := ownsRow_shape h.eps
  have H := hidP h
  have HO := hidP hok
  have HEV := hidP hev
  have he40 := hok.eps
  clear h hok hev hpos hcap ue
  have HO2 := hidP (show Ok (putActive c m.epoch) from ⟨HO.out.log, HO.out.ways, HO.out.eps, HO.out.mem⟩)
  go_enter Try.func90, Try.ntmps90
  go_wp2_with fail
  refine wp_genP (fun W => Below w.heap.size w W ∧ w.heap.size < W.heap.size ∧ W.cell? ⟨w.heap.size, 3, none⟩ = some (.int .i64 m.epoch)) ⟨(Below.refl _ _).alloc (Nat.le_refl _) _, by simp, (cell_of_row _ _ _ _ _ _ (heap_alloc_new w _)).trans rfl⟩ ?_
  rintro W ⟨hW1, hW2, m3⟩
  have hRW := H.out.below hW1
  have u5 := hRW.cEps
  rw [HEV.out] at u5
  have u6 := hRW.cAct
  have z6 := hRW.free 76
  have hbW := hRW.lt
  have HRW := hidP hRW
  have HW1 := hidP hW1
  clear hRW hW1
  by_cases q : m.epoch = (c.epochs.length : Int)
  · have HT := hidP (show takeReady c m = sendToLeader (putActive c m.epoch) 7 by unfold takeReady; rw [if_pos q])
    have bq : (m.epoch != (c.epochs.length : Int)) = false := by simp [q]
    clear q
    have HS := hidP (fun n : Nat => Rep.setAct (w := W.drewN n) (HRW.out.same fun _ _ _ => rfl) m.epoch)
    have nb : ¬ b = w.heap.size := by omega
    have nb2 : ¬ w.heap.size = b := by omega
    go_quiet (fail)
    go_wp2_with fail
    have HR3 := hidP (HS.out nq).1
    have HF3 := hidP (show Fr S w _ from ((Fr.below HW1.out).then (Fr.drewQ _ W nq)).then (HS.out nq).2)
    refine (sendToLeader_any HR3.out HO2.out 7).mono ?_
    rintro e w4 ⟨rfl, ⟨uv4, mv4, hR4⟩, hF4⟩
    have HR4 := hidP hR4
    have HF4 := hidP hF4
    clear hR4 hF4
    go_wp2
    exact bodyPost_end (results_none rfl _ _ _) rfl ⟨rfl, ⟨_, _, by
      rw [HT.out]
      exact HR4.out.mono fun q _ e => orR e fun e => Nat.le_trans HF3.out.size e⟩, HF3.out.then HF4.out⟩
  · have HT := hidP (show takeReady c m = c by unfold takeReady; rw [if_neg q])
    have bq : (m.epoch != (c.epochs.length : Int)) = true := by simp [q]
    clear q
    go_quiet (fail)
    go_wp2
    exact bodyPost_ret (results_none rfl _ _ _) rfl ⟨rfl, ⟨_, _, by rw [HT.out]; exact (HRW.out.mono (S' := Ext S w) fun q _ e => Or.inl e).same fun _ _ _ => rfl⟩, (Fr.below HW1.out).then (Fr.drewQ _ W nq)⟩
set_option maxHeartbeats 1600000 in
theorem remind_any (h : Rep w S b c lv ev uv mv) (hok : Ok c) :
    Calls Try.prog 56 #[.pointer (some ⟨b, 0, none⟩)] w fun e w' =>
      e = .returned (.int .i64 (remind c).2) ∧ (∃ uv' mv', Rep w' (Ext S w) b (remind c).1 lv ev uv' mv') ∧ Fr S w w' := by
  have u5 := h.cEps
  have u6 := h.cAct
  obtain ⟨ao, cap, hev, hcap, _, hpos⟩ := ownsRow_shape h.eps
  rw [hev] at u5
  have H := hidP h
  have HO := hidP hok
  have he40 := hok.eps
  clear h hok hev hpos hcap
  by_cases q : c.active = (c.epochs.length : Int)
  · have HT := hidP (show remind c = (c, 12) by unfold remind; rw [if_pos q])
    have bq : (c.active == (c.epochs.length : Int)) = true := by simp [q]
    clear q
    go_enter Try.func56, Try.ntmps56
    go_wp2_with fail
    go_quiet (fail)
    go_wp2_with fail
    go_ret
    rw [HT.out]
    exact ⟨rfl, ⟨_, _, (H.out.mono (S' := Ext S w) fun q _ e => Or.inl e).same fun _ _ _ => rfl⟩, Fr.drewQ _ _ nq⟩
  · have HT := hidP (show remind c = (sendToLeader c 1, 0) by unfold remind; rw [if_neg q])
    have bq : (c.active == (c.epochs.length : Int)) = false := by simp [q]
    clear q
    go_enter Try.func56, Try.ntmps56
    go_wp2_with fail
    go_quiet (fail)
    go_wp2_with (first | (go_at_call 59; refine (sendToLeader_any (w := w.drewN nq) (H.out.same fun _ _ _ => rfl) HO.out 1).mono ?_; rintro e w1 ⟨rfl, hR1, hF1⟩; have HR1 := hidP hR1; have HF1 := hidP hF1; clear hR1 hF1))
    go_ret
    rw [HT.out]
    exact ⟨rfl, HR1.out, (Fr.drewQ _ w nq).then HF1.out⟩
def confVal' (a q l act : Int) : Value := .agg #[.int .i64 a, .int .i64 q, .int .i64 l, .int .i64 act]
set_option maxHeartbeats 1600000 in
theorem config_any (h : Rep w S b c lv ev uv mv) (hok : Ok c) :
    Calls Try.prog 31 #[.pointer (some ⟨b, 0, none⟩)] w fun e w' =>
      e = .returned (.tuple #[confVal' c.epochs.length (epochOf c c.epochs.length).members (epochOf c c.epochs.length).leader c.active, .int .i64 0]) ∧ Below w.heap.size w w' := by
  unfold confVal'
  have u5 := h.cEps
  obtain ⟨ao, cap, hev, hcap, _, hpos⟩ := ownsRow_shape h.eps
  rw [hev] at u5
  have hb := h.lt
  have H := hidP h
  have HE := hidP (fun (W : World) (hW : Below w.heap.size w W) => epoch_any (h.below hW) hok c.epochs.length)
  unfold eraVal at HE
  have he40 := hok.eps
  clear h hok hev hpos hcap
  go_enter Try.func31, Try.ntmps31
  go_wp2_with fail
  refine (HE.out _ ((Below.refl _ _).alloc (Nat.le_refl _) _)).mono ?_
  rintro e w1 ⟨rfl, hB1⟩
  have hres := (hB1.block w.heap.size (by simp)).trans (heap_alloc_new _ _)
  have HB1 := hidP (((Below.refl w.heap.size w).alloc (Nat.le_refl _) _).trans (hB1.mono (by simp)))
  have hsz : w.heap.size < w1.heap.size := by have := hB1.size; simp at this; omega
  have r0 := cell_of_row _ _ 0 _ _ _ hres
  have r1 := cell_of_row _ _ 1 _ _ _ hres
  have r2 := cell_of_row _ _ 2 _ _ _ hres
  have r3 := cell_of_row _ _ 3 _ _ _ hres
  have z : ∀ o, w1.frozen? ⟨w.heap.size, o, none⟩ = false := fun o => by simp [World.frozen?, hres]
  have z0 := z 0; have z1 := z 1; have z2 := z 2; have z3 := z 3
  simp at r0 r1 r2 r3
  have v6 := (H.out.below HB1.out).cAct
  have hb1 : b < w1.heap.size := by omega
  clear hB1 hres z u5 HE
  obtain ⟨x, hx⟩ : ∃ x, epochOf c c.epochs.length = x := ⟨_, rfl⟩
  have HX := hidP hx
  rw [hx]
  clear hx
  go_wp2_with fail
  refine wp_genP (fun U => Below w.heap.size w U ∧ w1.heap.size < U.heap.size ∧ (∀ q, q < w1.heap.size → U.heap[q]? = w1.heap[q]?) ∧ U.heap[w1.heap.size]? = some (.cells #[.int .i64 x.members, .int .i64 x.leader, .int .i64 x.before] 106)) ⟨HB1.out.alloc HB1.out.size _, by simp, fun q hq => Below.heap_alloc _ _ _ hq, heap_alloc_new w1 _⟩ ?_
  rintro U ⟨hU1, hU2, hU3, hU4⟩
  have t0 := (World.cell?_of_block (a := ⟨w.heap.size, 0, none⟩) (hU3 _ hsz)).trans r0
  have t1 := (World.cell?_of_block (a := ⟨w.heap.size, 1, none⟩) (hU3 _ hsz)).trans r1
  have t2 := (World.cell?_of_block (a := ⟨w.heap.size, 2, none⟩) (hU3 _ hsz)).trans r2
  have t3 := (World.cell?_of_block (a := ⟨w.heap.size, 3, none⟩) (hU3 _ hsz)).trans r3
  have y0 := (World.frozen?_of_block (a := ⟨w.heap.size, 0, none⟩) (hU3 _ hsz)).trans z0
  have y1 := (World.frozen?_of_block (a := ⟨w.heap.size, 1, none⟩) (hU3 _ hsz)).trans z1
  have y2 := (World.frozen?_of_block (a := ⟨w.heap.size, 2, none⟩) (hU3 _ hsz)).trans z2
  have y3 := (World.frozen?_of_block (a := ⟨w.heap.size, 3, none⟩) (hU3 _ hsz)).trans z3
  have a6 := (World.cell?_of_block (a := ⟨b, 76, none⟩) (hU3 _ hb1)).trans v6
  have x0 : U.cell? ⟨w1.heap.size, 0, none⟩ = some (.int .i64 x.members) := (cell_of_row _ _ _ _ _ _ hU4).trans rfl
  have x1 : U.cell? ⟨w1.heap.size, 1, none⟩ = some (.int .i64 x.leader) := (cell_of_row _ _ _ _ _ _ hU4).trans rfl
  have HU1 := hidP hU1
  have hwU : w.heap.size < U.heap.size := by omega
  have n1 : ¬ w.heap.size = w1.heap.size := by omega
  have n2 : ¬ b = w.heap.size := by omega
  clear hU1 hU3 hU4 r0 r1 r2 r3 z0 z1 z2 z3 v6
  go_region
  go_wp2
  refine bodyPost_ret (v := .tuple #[.agg #[.int .i64 c.epochs.length, .int .i64 x.members, .int .i64 x.leader, .int .i64 c.active], .int .i64 0]) (by simp [results, Try.results31, go_sem, *]) rfl ⟨by rw [HX.out], ?_⟩
  exact ((((HU1.out.setCell (Nat.le_refl _) _).setCell (Nat.le_refl _) _).setCell (Nat.le_refl _) _).setCell (Nat.le_refl _) _).drew
end
end Go.Proofs.Ythpjcmilfipbaaa

namespace Go.Proofs.Ythpjcmilfipbaaa
set_option linter.unusedVariables false
set_option linter.unusedSimpArgs false
open Go.RowKit
/-- A message that may arrive. -/
structure Fit (m : Msg) : Prop where
  to : -1 ≤ m.to ∧ m.to < 5
  frm : m.kind = 5 ∨ m.kind = 9 → 0 ≤ m.frm ∧ m.frm < 5
  len : m.recs.length ≤ 60
  one : m.kind = 8 → ∃ r, m.recs = [r]
section
variable {w : World} {S : Nat → Prop} {b : Nat} {c : Clu} {lv : Nat → Value} {ev uv : Value} {mv : List (Msg × Value)}
set_option maxHeartbeats 16000000 in
set_option maxRecDepth 100000 in
theorem takeInTo_any (h : Rep w S b c lv ev uv mv) (hok : Ok c) (m : Msg) (hp : Fit m) (k : Nat) (hk : k < 5) (hto : m.to = k) (rv : Value) (hrv : w.ownsRow 0 36 3 rv m.recs.length (recCells m.recs))
    (hl60 : ∀ k, k < 5 → m.kind = 8 → m.n = ((c.nodes k).log.length : Int) → (c.nodes k).log.length < 60) :
    Calls Try.prog 70 #[.pointer (some ⟨b, 0, none⟩), msgVal m rv] w fun e w' =>
      e = .returned (.tuple #[]) ∧ (∃ lv' uv' mv', Rep w' (Ext S w) b (takeIn c m) lv' ev uv' mv') ∧ Fr S w w' := by
  have hnk : nodeB (k : Int) = true := by simp [nodeB]; omega
  obtain ⟨ro, rc, rfl, _, _, hrp⟩ := ownsRow_shape hrv
  have hb := h.lt
  have HB0 := hidP (show ∀ o : Obj, Below w.heap.size w (w.alloc o) from fun o => (Below.refl _ _).alloc (Nat.le_refl _) o)
  have H := hidP h
  have HTI := hidP (show takeIn c m = if (c.nodes k).up = true ∧ (c.nodes k).follows ≤ m.epoch then takeKind c k m else c by
    unfold takeIn
    rw [hto, if_neg (by omega), show ((k : Int)).toNat = k from rfl]
    by_cases q : (c.nodes k).up = true ∧ (c.nodes k).follows ≤ m.epoch
    · rw [if_pos ⟨hnk, q⟩, if_pos q]
    · rw [if_neg (fun x => q x.2), if_neg q])
  have HA1 : Hid (m.kind = 1 → ∀ W, Below w.heap.size w W → Calls Try.prog 91 #[.pointer (some ⟨b, 0, none⟩), msgVal m (.slice ro m.recs.length rc)] W fun e w' =>
      e = .returned (.tuple #[]) ∧ (∃ lv' uv' mv', Rep w' (Ext S W) b (takeStart c k m) lv' ev uv' mv') ∧ Fr S W w') := by
    intro hK W hW
    exact (takeStart_any (h.below hW) hok k hk m hto ro m.recs.length rc).mono fun e w' ⟨he, ⟨uv', mv', hr⟩, hf⟩ => ⟨he, ⟨_, uv', mv', hr⟩, hf⟩
  have HA2 : Hid (m.kind = 2 → ∀ W, Below w.heap.size w W → Calls Try.prog 92 #[.pointer (some ⟨b, 0, none⟩), msgVal m (.slice ro m.recs.length rc)] W fun e w' =>
      e = .returned (.tuple #[]) ∧ (∃ lv' uv' mv', Rep w' (Ext S W) b (takeRead c k m) lv' ev uv' mv') ∧ Fr S W w') := by
    intro hK W hW
    exact (takeRead_any (h.below hW) hok k hk m hto ro m.recs.length rc).mono fun e w' ⟨he, ⟨uv', mv', hr⟩, hf⟩ => ⟨he, ⟨_, uv', mv', hr⟩, hf⟩
  have HA3 : Hid (m.kind = 3 → ∀ W, Below w.heap.size w W → Calls Try.prog 93 #[.pointer (some ⟨b, 0, none⟩), msgVal m (.slice ro m.recs.length rc)] W fun e w' =>
      e = .returned (.tuple #[]) ∧ (∃ lv' uv' mv', Rep w' (Ext S W) b (takeLogIn c k m) lv' ev uv' mv') ∧ Fr S W w') := by
    intro hK W hW
    exact takeLogIn_any (h.below hW) hok k hk m hto ro rc (ownsRow_same hrv fun g _ hl => hW.block g hl) hp.len
  have HA4 : Hid (m.kind = 4 → ∀ W, Below w.heap.size w W → Calls Try.prog 94 #[.pointer (some ⟨b, 0, none⟩), msgVal m (.slice ro m.recs.length rc)] W fun e w' =>
      e = .returned (.tuple #[]) ∧ (∃ lv' uv' mv', Rep w' (Ext S W) b (takeState c k m) lv' ev uv' mv') ∧ Fr S W w') := by
    intro hK W hW
    exact takeState_any (h.below hW) hok k hk m hto ro rc (ownsRow_same hrv fun g _ hl => hW.block g hl) hp.len
  have HA5 : Hid (m.kind = 5 → ∀ W, Below w.heap.size w W → Calls Try.prog 95 #[.pointer (some ⟨b, 0, none⟩), msgVal m (.slice ro m.recs.length rc)] W fun e w' =>
      e = .returned (.tuple #[]) ∧ (∃ lv' uv' mv', Rep w' (Ext S W) b (takeHave c k m) lv' ev uv' mv') ∧ Fr S W w') := by
    intro hK W hW
    obtain ⟨f, hfr⟩ := Int.eq_ofNat_of_zero_le (hp.frm (by omega)).1
    have hf5 : f < 5 := by have := (hp.frm (by omega)).2; omega
    exact takeHave_any (h.below hW) hok k hk m hto f hf5 hfr ro m.recs.length rc
  have HA7 : Hid (m.kind = 7 → ∀ W, Below w.heap.size w W → Calls Try.prog 96 #[.pointer (some ⟨b, 0, none⟩), msgVal m (.slice ro m.recs.length rc)] W fun e w' =>
      e = .returned (.tuple #[]) ∧ (∃ lv' uv' mv', Rep w' (Ext S W) b (takeServe c k m) lv' ev uv' mv') ∧ Fr S W w') := by
    intro hK W hW
    exact takeServe_any (h.below hW) hok k hk m hto ro m.recs.length rc
  have HA8 : Hid (m.kind = 8 → ∀ W, Below w.heap.size w W → Calls Try.prog 97 #[.pointer (some ⟨b, 0, none⟩), msgVal m (.slice ro m.recs.length rc)] W fun e w' =>
      e = .returned (.tuple #[]) ∧ (∃ lv' uv' mv', Rep w' (Ext S W) b (takeApp c k m) lv' ev uv' mv') ∧ Fr S W w') := by
    intro hK W hW
    obtain ⟨r, hr⟩ := hp.one hK
    rw [hr] at hrv hrp ⊢
    obtain ⟨rg, rfl⟩ := hrp (by simp)
    exact takeApp_any (h.below hW) hok k hk m hto r hr rg rc (ownsRow_same hrv fun g _ hl => hW.block g hl) (fun x => hl60 k hk hK x)
  have HA9 : Hid (m.kind = 9 → ∀ W, Below w.heap.size w W → Calls Try.prog 98 #[.pointer (some ⟨b, 0, none⟩), msgVal m (.slice ro m.recs.length rc)] W fun e w' =>
      e = .returned (.tuple #[]) ∧ (∃ lv' uv' mv', Rep w' (Ext S W) b (takeAck c k m) lv' ev uv' mv') ∧ Fr S W w') := by
    intro hK W hW
    obtain ⟨f, hfr⟩ := Int.eq_ofNat_of_zero_le (hp.frm (by omega)).1
    have hf5 : f < 5 := by have := (hp.frm (by omega)).2; omega
    exact takeAck_any (h.below hW) hok k hk m hto f hf5 hfr ro m.recs.length rc
  unfold msgVal at HA1 HA2 HA3 HA4 HA5 HA7 HA8 HA9 ⊢
  have u0 := h.cUp k hk
  have u1 := h.cFol k hk
  generalize m.recs.length = rl at *
  clear h hok hp hrv hrp hl60
  have hk0 : (0 : Int) ≤ (k : Int) := by omega
  have hk1 : (k : Int) < 5 := by omega
  have hkm : ((k : Int) == -1) = false := by simp
  rw [hto] at HA1 HA2 HA3 HA4 HA5 HA7 HA8 HA9 ⊢
  clear hto
  cases hup : (c.nodes k).up
  · rw [hup] at u0
    have HF := hidP (show takeIn c m = c by rw [HTI.out]; exact if_neg (fun x => by rw [hup] at x; exact absurd x.1 (by decide)))
    go_enter Try.func70, Try.ntmps70
    go_wp2_with fail
    refine wp_genP (fun W => Below w.heap.size w W ∧ w.heap.size < W.heap.size ∧ W.cell? ⟨b, k * 15, none⟩ = some (.bool false) ∧ W.cell? ⟨b, k * 15 + 1, none⟩ = some (.int .i64 (c.nodes k).follows) ∧ W.heap[w.heap.size]? = some (.cells #[.int .i64 m.kind, .int .i64 m.frm, .int .i64 k, .int .i64 m.epoch, .int .i64 m.n, .slice ro rl rc] 101)) ⟨HB0.out _, by simp, by simp [World.cell?_alloc_some, u0], by simp [World.cell?_alloc_some, u1], heap_alloc_new w _⟩ ?_
    rintro W ⟨hW1, hW2, v0, v1, hW3⟩
    have m0 : W.cell? ⟨w.heap.size, 0, none⟩ = some (.int .i64 m.kind) := (cell_of_row _ _ _ _ _ _ hW3).trans rfl
    have m1 : W.cell? ⟨w.heap.size, 1, none⟩ = some (.int .i64 m.frm) := (cell_of_row _ _ _ _ _ _ hW3).trans rfl
    have m2 : W.cell? ⟨w.heap.size, 2, none⟩ = some (.int .i64 k) := (cell_of_row _ _ _ _ _ _ hW3).trans rfl
    have m3 : W.cell? ⟨w.heap.size, 3, none⟩ = some (.int .i64 m.epoch) := (cell_of_row _ _ _ _ _ _ hW3).trans rfl
    have m4 : W.cell? ⟨w.heap.size, 4, none⟩ = some (.int .i64 m.n) := (cell_of_row _ _ _ _ _ _ hW3).trans rfl
    have m5 : W.cell? ⟨w.heap.size, 5, none⟩ = some (.slice ro rl rc) := (cell_of_row _ _ _ _ _ _ hW3).trans rfl
    have HW1 := hidP hW1
    clear hW1 hW3 u0 u1
    go_quiet (first | (go_at_call 51; refine Calls.quiet_of_same (isNode_any _ _)))
    go_wp2
    exact bodyPost_ret (results_none rfl _ _ _) rfl ⟨rfl, ⟨_, _, _, by rw [HF.out]; exact (((H.out.mono (S' := Ext S w) fun q _ e => Or.inl e).below HW1.out).same fun _ _ _ => rfl)⟩, (Fr.below HW1.out).then (Fr.drewP _ W nq)⟩
  rw [hup] at u0
  by_cases hfe : m.epoch < (c.nodes k).follows
  · have HF := hidP (show takeIn c m = c by rw [HTI.out]; exact if_neg (fun x => by have := x.2; omega))
    go_enter Try.func70, Try.ntmps70
    go_wp2_with fail
    refine wp_genP (fun W => Below w.heap.size w W ∧ w.heap.size < W.heap.size ∧ W.cell? ⟨b, k * 15, none⟩ = some (.bool true) ∧ W.cell? ⟨b, k * 15 + 1, none⟩ = some (.int .i64 (c.nodes k).follows) ∧ W.heap[w.heap.size]? = some (.cells #[.int .i64 m.kind, .int .i64 m.frm, .int .i64 k, .int .i64 m.epoch, .int .i64 m.n, .slice ro rl rc] 101)) ⟨HB0.out _, by simp, by simp [World.cell?_alloc_some, u0], by simp [World.cell?_alloc_some, u1], heap_alloc_new w _⟩ ?_
    rintro W ⟨hW1, hW2, v0, v1, hW3⟩
    have m0 : W.cell? ⟨w.heap.size, 0, none⟩ = some (.int .i64 m.kind) := (cell_of_row _ _ _ _ _ _ hW3).trans rfl
    have m1 : W.cell? ⟨w.heap.size, 1, none⟩ = some (.int .i64 m.frm) := (cell_of_row _ _ _ _ _ _ hW3).trans rfl
    have m2 : W.cell? ⟨w.heap.size, 2, none⟩ = some (.int .i64 k) := (cell_of_row _ _ _ _ _ _ hW3).trans rfl
    have m3 : W.cell? ⟨w.heap.size, 3, none⟩ = some (.int .i64 m.epoch) := (cell_of_row _ _ _ _ _ _ hW3).trans rfl
    have m4 : W.cell? ⟨w.heap.size, 4, none⟩ = some (.int .i64 m.n) := (cell_of_row _ _ _ _ _ _ hW3).trans rfl
    have m5 : W.cell? ⟨w.heap.size, 5, none⟩ = some (.slice ro rl rc) := (cell_of_row _ _ _ _ _ _ hW3).trans rfl
    have HW1 := hidP hW1
    clear hW1 hW3 u0 u1
    go_quiet (first | (go_at_call 51; refine Calls.quiet_of_same (isNode_any _ _)))
    go_wp2
    exact bodyPost_ret (results_none rfl _ _ _) rfl ⟨rfl, ⟨_, _, _, by rw [HF.out]; exact (((H.out.mono (S' := Ext S w) fun q _ e => Or.inl e).below HW1.out).same fun _ _ _ => rfl)⟩, (Fr.below HW1.out).then (Fr.drewP _ W nq)⟩
  have HF0 := hidP (show takeIn c m = takeKind c k m by rw [HTI.out]; exact if_pos ⟨hup, by omega⟩)
  have hfe' : (c.nodes k).follows ≤ m.epoch := by omega
  clear hfe HTI hup
  by_cases h1 : m.kind = 1
  · have HF := hidP (show takeIn c m = takeStart c k m by rw [HF0.out, takeKind, if_pos h1])
    have HC := hidP (HA1.out h1)
    rw [h1] at HC ⊢
    clear HA1 HA2 HA3 HA4 HA5 HA7 HA8 HA9 HF0 h1
    go_enter Try.func70, Try.ntmps70
    go_wp2_with fail
    refine wp_genP (fun W => Below w.heap.size w W ∧ w.heap.size < W.heap.size ∧ W.cell? ⟨b, k * 15, none⟩ = some (.bool true) ∧ W.cell? ⟨b, k * 15 + 1, none⟩ = some (.int .i64 (c.nodes k).follows) ∧ W.heap[w.heap.size]? = some (.cells #[.int .i64 1, .int .i64 m.frm, .int .i64 k, .int .i64 m.epoch, .int .i64 m.n, .slice ro rl rc] 101)) ⟨HB0.out _, by simp, by simp [World.cell?_alloc_some, u0], by simp [World.cell?_alloc_some, u1], heap_alloc_new w _⟩ ?_
    rintro W ⟨hW1, hW2, v0, v1, hW3⟩
    have m0 : W.cell? ⟨w.heap.size, 0, none⟩ = some (.int .i64 1) := (cell_of_row _ _ _ _ _ _ hW3).trans rfl
    have m1 : W.cell? ⟨w.heap.size, 1, none⟩ = some (.int .i64 m.frm) := (cell_of_row _ _ _ _ _ _ hW3).trans rfl
    have m2 : W.cell? ⟨w.heap.size, 2, none⟩ = some (.int .i64 k) := (cell_of_row _ _ _ _ _ _ hW3).trans rfl
    have m3 : W.cell? ⟨w.heap.size, 3, none⟩ = some (.int .i64 m.epoch) := (cell_of_row _ _ _ _ _ _ hW3).trans rfl
    have m4 : W.cell? ⟨w.heap.size, 4, none⟩ = some (.int .i64 m.n) := (cell_of_row _ _ _ _ _ _ hW3).trans rfl
    have m5 : W.cell? ⟨w.heap.size, 5, none⟩ = some (.slice ro rl rc) := (cell_of_row _ _ _ _ _ _ hW3).trans rfl
    have HW1 := hidP hW1
    clear hW1 hW3 u0 u1
    go_quiet (first | (go_at_call 51; refine Calls.quiet_of_same (isNode_any _ _)))
    go_wp2_with (first | (go_at_call 91; refine (HC.out (W.drewN nq) (HW1.out.trans ⟨rfl, rfl, rfl, Nat.le_refl _, fun _ _ => rfl⟩)).mono ?_; rintro e w3 ⟨rfl, ⟨lv3, uv3, mv3, hR3⟩, hF3⟩; have HR3 := hidP hR3; have HF3 := hidP hF3; clear hR3 hF3))
    exact bodyPost_end (results_none rfl _ _ _) rfl ⟨rfl, ⟨_, _, _, by
      rw [HF.out]
      exact HR3.out.mono fun q _ e => orR e fun e => Nat.le_trans HW1.out.size e⟩, ((Fr.below HW1.out).then (Fr.drewP _ W nq)).then HF3.out⟩
  by_cases h2 : m.kind = 2
  · have HF := hidP (show takeIn c m = takeRead c k m by rw [HF0.out, takeKind, if_neg (by omega), if_pos h2])
    have HC := hidP (HA2.out h2)
    rw [h2] at HC ⊢
    clear HA1 HA2 HA3 HA4 HA5 HA7 HA8 HA9 HF0 h2
    go_enter Try.func70, Try.ntmps70
    go_wp2_with fail
    refine wp_genP (fun W => Below w.heap.size w W ∧ w.heap.size < W.heap.size ∧ W.cell? ⟨b, k * 15, none⟩ = some (.bool true) ∧ W.cell? ⟨b, k * 15 + 1, none⟩ = some (.int .i64 (c.nodes k).follows) ∧ W.heap[w.heap.size]? = some (.cells #[.int .i64 2, .int .i64 m.frm, .int .i64 k, .int .i64 m.epoch, .int .i64 m.n, .slice ro rl rc] 101)) ⟨HB0.out _, by simp, by simp [World.cell?_alloc_some, u0], by simp [World.cell?_alloc_some, u1], heap_alloc_new w _⟩ ?_
    rintro W ⟨hW1, hW2, v0, v1, hW3⟩
    have m0 : W.cell? ⟨w.heap.size, 0, none⟩ = some (.int .i64 2) := (cell_of_row _ _ _ _ _ _ hW3).trans rfl
    have m1 : W.cell? ⟨w.heap.size, 1, none⟩ = some (.int .i64 m.frm) := (cell_of_row _ _ _ _ _ _ hW3).trans rfl
    have m2 : W.cell? ⟨w.heap.size, 2, none⟩ = some (.int .i64 k) := (cell_of_row _ _ _ _ _ _ hW3).trans rfl
    have m3 : W.cell? ⟨w.heap.size, 3, none⟩ = some (.int .i64 m.epoch) := (cell_of_row _ _ _ _ _ _ hW3).trans rfl
    have m4 : W.cell? ⟨w.heap.size, 4, none⟩ = some (.int .i64 m.n) := (cell_of_row _ _ _ _ _ _ hW3).trans rfl
    have m5 : W.cell? ⟨w.heap.size, 5, none⟩ = some (.slice ro rl rc) := (cell_of_row _ _ _ _ _ _ hW3).trans rfl
    have HW1 := hidP hW1
    clear hW1 hW3 u0 u1
    go_quiet (first | (go_at_call 51; refine Calls.quiet_of_same (isNode_any _ _)))
    go_wp2_with (first | (go_at_call 92; refine (HC.out (W.drewN nq) (HW1.out.trans ⟨rfl, rfl, rfl, Nat.le_refl _, fun _ _ => rfl⟩)).mono ?_; rintro e w3 ⟨rfl, ⟨lv3, uv3, mv3, hR3⟩, hF3⟩; have HR3 := hidP hR3; have HF3 := hidP hF3; clear hR3 hF3))
    exact bodyPost_end (results_none rfl _ _ _) rfl ⟨rfl, ⟨_, _, _, by
      rw [HF.out]
      exact HR3.out.mono fun q _ e => orR e fun e => Nat.le_trans HW1.out.size e⟩, ((Fr.below HW1.out).then (Fr.drewP _ W nq)).then HF3.out⟩
  by_cases h3 : m.kind = 3
  · have HF := hidP (show takeIn c m = takeLogIn c k m by rw [HF0.out, takeKind, if_neg (by omega), if_neg (by omega), if_pos h3])
    have HC := hidP (HA3.out h3)
    rw [h3] at HC ⊢
    clear HA1 HA2 HA3 HA4 HA5 HA7 HA8 HA9 HF0 h3
    go_enter Try.func70, Try.ntmps70
    go_wp2_with fail
    refine wp_genP (fun W => Below w.heap.size w W ∧ w.heap.size < W.heap.size ∧ W.cell? ⟨b, k * 15, none⟩ = some (.bool true) ∧ W.cell? ⟨b, k * 15 + 1, none⟩ = some (.int .i64 (c.nodes k).follows) ∧ W.heap[w.heap.size]? = some (.cells #[.int .i64 3, .int .i64 m.frm, .int .i64 k, .int .i64 m.epoch, .int .i64 m.n, .slice ro rl rc] 101)) ⟨HB0.out _, by simp, by simp [World.cell?_alloc_some, u0], by simp [World.cell?_alloc_some, u1], heap_alloc_new w _⟩ ?_
    rintro W ⟨hW1, hW2, v0, v1, hW3⟩
    have m0 : W.cell? ⟨w.heap.size, 0, none⟩ = some (.int .i64 3) := (cell_of_row _ _ _ _ _ _ hW3).trans rfl
    have m1 : W.cell? ⟨w.heap.size, 1, none⟩ = some (.int .i64 m.frm) := (cell_of_row _ _ _ _ _ _ hW3).trans rfl
    have m2 : W.cell? ⟨w.heap.size, 2, none⟩ = some (.int .i64 k) := (cell_of_row _ _ _ _ _ _ hW3).trans rfl
    have m3 : W.cell? ⟨w.heap.size, 3, none⟩ = some (.int .i64 m.epoch) := (cell_of_row _ _ _ _ _ _ hW3).trans rfl
    have m4 : W.cell? ⟨w.heap.size, 4, none⟩ = some (.int .i64 m.n) := (cell_of_row _ _ _ _ _ _ hW3).trans rfl
    have m5 : W.cell? ⟨w.heap.size, 5, none⟩ = some (.slice ro rl rc) := (cell_of_row _ _ _ _ _ _ hW3).trans rfl
    have HW1 := hidP hW1
    clear hW1 hW3 u0 u1
    go_quiet (first | (go_at_call 51; refine Calls.quiet_of_same (isNode_any _ _)))
    go_wp2_with (first | (go_at_call 93; refine (HC.out (W.drewN nq) (HW1.out.trans ⟨rfl, rfl, rfl, Nat.le_refl _, fun _ _ => rfl⟩)).mono ?_; rintro e w3 ⟨rfl, ⟨lv3, uv3, mv3, hR3⟩, hF3⟩; have HR3 := hidP hR3; have HF3 := hidP hF3; clear hR3 hF3))
    exact bodyPost_end (results_none rfl _ _ _) rfl ⟨rfl, ⟨_, _, _, by
      rw [HF.out]
      exact HR3.out.mono fun q _ e => orR e fun e => Nat.le_trans HW1.out.size e⟩, ((Fr.below HW1.out).then (Fr.drewP _ W nq)).then HF3.out⟩
  by_cases h4 : m.kind = 4
  · have HF := hidP (show takeIn c m = takeState c k m by rw [HF0.out, takeKind, if_neg (by omega), if_neg (by omega), if_neg (by omega), if_pos h4])
    have HC := hidP (HA4.out h4)
    rw [h4] at HC ⊢
    clear HA1 HA2 HA3 HA4 HA5 HA7 HA8 HA9 HF0 h4
    go_enter Try.func70, Try.ntmps70
    go_wp2_with fail
    refine wp_genP (fun W => Below w.heap.size w W ∧ w.heap.size < W.heap.size ∧ W.cell? ⟨b, k * 15, none⟩ = some (.bool true) ∧ W.cell? ⟨b, k * 15 + 1, none⟩ = some (.int .i64 (c.nodes k).follows) ∧ W.heap[w.heap.size]? = some (.cells #[.int .i64 4, .int .i64 m.frm, .int .i64 k, .int .i64 m.epoch, .int .i64 m.n, .slice ro rl rc] 101)) ⟨HB0.out _, by simp, by simp [World.cell?_alloc_some, u0], by simp [World.cell?_alloc_some, u1], heap_alloc_new w _⟩ ?_
    rintro W ⟨hW1, hW2, v0, v1, hW3⟩
    have m0 : W.cell? ⟨w.heap.size, 0, none⟩ = some (.int .i64 4) := (cell_of_row _ _ _ _ _ _ hW3).trans rfl
    have m1 : W.cell? ⟨w.heap.size, 1, none⟩ = some (.int .i64 m.frm) := (cell_of_row _ _ _ _ _ _ hW3).trans rfl
    have m2 : W.cell? ⟨w.heap.size, 2, none⟩ = some (.int .i64 k) := (cell_of_row _ _ _ _ _ _ hW3).trans rfl
    have m3 : W.cell? ⟨w.heap.size, 3, none⟩ = some (.int .i64 m.epoch) := (cell_of_row _ _ _ _ _ _ hW3).trans rfl
    have m4 : W.cell? ⟨w.heap.size, 4, none⟩ = some (.int .i64 m.n) := (cell_of_row _ _ _ _ _ _ hW3).trans rfl
    have m5 : W.cell? ⟨w.heap.size, 5, none⟩ = some (.slice ro rl rc) := (cell_of_row _ _ _ _ _ _ hW3).trans rfl
    have HW1 := hidP hW1
    clear hW1 hW3 u0 u1
    go_quiet (first | (go_at_call 51; refine Calls.quiet_of_same (isNode_any _ _)))
    go_wp2_with (first | (go_at_call 94; refine (HC.out (W.drewN nq) (HW1.out.trans ⟨rfl, rfl, rfl, Nat.le_refl _, fun _ _ => rfl⟩)).mono ?_; rintro e w3 ⟨rfl, ⟨lv3, uv3, mv3, hR3⟩, hF3⟩; have HR3 := hidP hR3; have HF3 := hidP hF3; clear hR3 hF3))
    exact bodyPost_end (results_none rfl _ _ _) rfl ⟨rfl, ⟨_, _, _, by
      rw [HF.out]
      exact HR3.out.mono fun q _ e => orR e fun e => Nat.le_trans HW1.out.size e⟩, ((Fr.below HW1.out).then (Fr.drewP _ W nq)).then HF3.out⟩
  by_cases h5 : m.kind = 5
  · have HF := hidP (show takeIn c m = takeHave c k m by rw [HF0.out, takeKind, if_neg (by omega), if_neg (by omega), if_neg (by omega), if_neg (by omega), if_pos h5])
    have HC := hidP (HA5.out h5)
    rw [h5] at HC ⊢
    clear HA1 HA2 HA3 HA4 HA5 HA7 HA8 HA9 HF0 h5
    go_enter Try.func70, Try.ntmps70
    go_wp2_with fail
    refine wp_genP (fun W => Below w.heap.size w W ∧ w.heap.size < W.heap.size ∧ W.cell? ⟨b, k * 15, none⟩ = some (.bool true) ∧ W.cell? ⟨b, k * 15 + 1, none⟩ = some (.int .i64 (c.nodes k).follows) ∧ W.heap[w.heap.size]? = some (.cells #[.int .i64 5, .int .i64 m.frm, .int .i64 k, .int .i64 m.epoch, .int .i64 m.n, .slice ro rl rc] 101)) ⟨HB0.out _, by simp, by simp [World.cell?_alloc_some, u0], by simp [World.cell?_alloc_some, u1], heap_alloc_new w _⟩ ?_
    rintro W ⟨hW1, hW2, v0, v1, hW3⟩
    have m0 : W.cell? ⟨w.heap.size, 0, none⟩ = some (.int .i64 5) := (cell_of_row _ _ _ _ _ _ hW3).trans rfl
    have m1 : W.cell? ⟨w.heap.size, 1, none⟩ = some (.int .i64 m.frm) := (cell_of_row _ _ _ _ _ _ hW3).trans rfl
    have m2 : W.cell? ⟨w.heap.size, 2, none⟩ = some (.int .i64 k) := (cell_of_row _ _ _ _ _ _ hW3).trans rfl
    have m3 : W.cell? ⟨w.heap.size, 3, none⟩ = some (.int .i64 m.epoch) := (cell_of_row _ _ _ _ _ _ hW3).trans rfl
    have m4 : W.cell? ⟨w.heap.size, 4, none⟩ = some (.int .i64 m.n) := (cell_of_row _ _ _ _ _ _ hW3).trans rfl
    have m5 : W.cell? ⟨w.heap.size, 5, none⟩ = some (.slice ro rl rc) := (cell_of_row _ _ _ _ _ _ hW3).trans rfl
    have HW1 := hidP hW1
    clear hW1 hW3 u0 u1
    go_quiet (first | (go_at_call 51; refine Calls.quiet_of_same (isNode_any _ _)))
    go_wp2_with (first | (go_at_call 95; refine (HC.out (W.drewN nq) (HW1.out.trans ⟨rfl, rfl, rfl, Nat.le_refl _, fun _ _ => rfl⟩)).mono ?_; rintro e w3 ⟨rfl, ⟨lv3, uv3, mv3, hR3⟩, hF3⟩; have HR3 := hidP hR3; have HF3 := hidP hF3; clear hR3 hF3))
    exact bodyPost_end (results_none rfl _ _ _) rfl ⟨rfl, ⟨_, _, _, by
      rw [HF.out]
      exact HR3.out.mono fun q _ e => orR e fun e => Nat.le_trans HW1.out.size e⟩, ((Fr.below HW1.out).then (Fr.drewP _ W nq)).then HF3.out⟩
  by_cases h7 : m.kind = 7
  · have HF := hidP (show takeIn c m = takeServe c k m by rw [HF0.out, takeKind, if_neg (by omega), if_neg (by omega), if_neg (by omega), if_neg (by omega), if_neg (by omega), if_pos h7])
    have HC := hidP (HA7.out h7)
    rw [h7] at HC ⊢
    clear HA1 HA2 HA3 HA4 HA5 HA7 HA8 HA9 HF0 h7
    go_enter Try.func70, Try.ntmps70
    go_wp2_with fail
    refine wp_genP (fun W => Below w.heap.size w W ∧ w.heap.size < W.heap.size ∧ W.cell? ⟨b, k * 15, none⟩ = some (.bool true) ∧ W.cell? ⟨b, k * 15 + 1, none⟩ = some (.int .i64 (c.nodes k).follows) ∧ W.heap[w.heap.size]? = some (.cells #[.int .i64 7, .int .i64 m.frm, .int .i64 k, .int .i64 m.epoch, .int .i64 m.n, .slice ro rl rc] 101)) ⟨HB0.out _, by simp, by simp [World.cell?_alloc_some, u0], by simp [World.cell?_alloc_some, u1], heap_alloc_new w _⟩ ?_
    rintro W ⟨hW1, hW2, v0, v1, hW3⟩
    have m0 : W.cell? ⟨w.heap.size, 0, none⟩ = some (.int .i64 7) := (cell_of_row _ _ _ _ _ _ hW3).trans rfl
    have m1 : W.cell? ⟨w.heap.size, 1, none⟩ = some (.int .i64 m.frm) := (cell_of_row _ _ _ _ _ _ hW3).trans rfl
    have m2 : W.cell? ⟨w.heap.size, 2, none⟩ = some (.int .i64 k) := (cell_of_row _ _ _ _ _ _ hW3).trans rfl
    have m3 : W.cell? ⟨w.heap.size, 3, none⟩ = some (.int .i64 m.epoch) := (cell_of_row _ _ _ _ _ _ hW3).trans rfl
    have m4 : W.cell? ⟨w.heap.size, 4, none⟩ = some (.int .i64 m.n) := (cell_of_row _ _ _ _ _ _ hW3).trans rfl
    have m5 : W.cell? ⟨w.heap.size, 5, none⟩ = some (.slice ro rl rc) := (cell_of_row _ _ _ _ _ _ hW3).trans rfl
    have HW1 := hidP hW1
    clear hW1 hW3 u0 u1
    go_quiet (first | (go_at_call 51; refine Calls.quiet_of_same (isNode_any _ _)))
    go_wp2_with (first | (go_at_call 96; refine (HC.out (W.drewN nq) (HW1.out.trans ⟨rfl, rfl, rfl, Nat.le_refl _, fun _ _ => rfl⟩)).mono ?_; rintro e w3 ⟨rfl, ⟨lv3, uv3, mv3, hR3⟩, hF3⟩; have HR3 := hidP hR3; have HF3 := hidP hF3; clear hR3 hF3))
    exact bodyPost_end (results_none rfl _ _ _) rfl ⟨rfl, ⟨_, _, _, by
      rw [HF.out]
      exact HR3.out.mono fun q _ e => orR e fun e => Nat.le_trans HW1.out.size e⟩, ((Fr.below HW1.out).then (Fr.drewP _ W nq)).then HF3.out⟩
  by_cases h8 : m.kind = 8
  · have HF := hidP (show takeIn c m = takeApp c k m by rw [HF0.out, takeKind, if_neg (by omega), if_neg (by omega), if_neg (by omega), if_neg (by omega), if_neg (by omega), if_neg (by omega), if_pos h8])
    have HC := hidP (HA8.out h8)
    rw [h8] at HC ⊢
    clear HA1 HA2 HA3 HA4 HA5 HA7 HA8 HA9 HF0 h8
    go_enter Try.func70, Try.ntmps70
    go_wp2_with fail
    refine wp_genP (fun W => Below w.heap.size w W ∧ w.heap.size < W.heap.size ∧ W.cell? ⟨b, k * 15, none⟩ = some (.bool true) ∧ W.cell? ⟨b, k * 15 + 1, none⟩ = some (.int .i64 (c.nodes k).follows) ∧ W.heap[w.heap.size]? = some (.cells #[.int .i64 8, .int .i64 m.frm, .int .i64 k, .int .i64 m.epoch, .int .i64 m.n, .slice ro rl rc] 101)) ⟨HB0.out _, by simp, by simp [World.cell?_alloc_some, u0], by simp [World.cell?_alloc_some, u1], heap_alloc_new w _⟩ ?_
    rintro W ⟨hW1, hW2, v0, v1, hW3⟩
    have m0 : W.cell? ⟨w.heap.size, 0, none⟩ = some (.int .i64 8) := (cell_of_row _ _ _ _ _ _ hW3).trans rfl
    have m1 : W.cell? ⟨w.heap.size, 1, none⟩ = some (.int .i64 m.frm) := (cell_of_row _ _ _ _ _ _ hW3).trans rfl
    have m2 : W.cell? ⟨w.heap.size, 2, none⟩ = some (.int .i64 k) := (cell_of_row _ _ _ _ _ _ hW3).trans rfl
    have m3 : W.cell? ⟨w.heap.size, 3, none⟩ = some (.int .i64 m.epoch) := (cell_of_row _ _ _ _ _ _ hW3).trans rfl
    have m4 : W.cell? ⟨w.heap.size, 4, none⟩ = some (.int .i64 m.n) := (cell_of_row _ _ _ _ _ _ hW3).trans rfl
    have m5 : W.cell? ⟨w.heap.size, 5, none⟩ = some (.slice ro rl rc) := (cell_of_row _ _ _ _ _ _ hW3).trans rfl
    have HW1 := hidP hW1
    clear hW1 hW3 u0 u1
    go_quiet (first | (go_at_call 51; refine Calls.quiet_of_same (isNode_any _ _)))
    go_wp2_with (first | (go_at_call 97; refine (HC.out (W.drewN nq) (HW1.out.trans ⟨rfl, rfl, rfl, Nat.le_refl _, fun _ _ => rfl⟩)).mono ?_; rintro e w3 ⟨rfl, ⟨lv3, uv3, mv3, hR3⟩, hF3⟩; have HR3 := hidP hR3; have HF3 := hidP hF3; clear hR3 hF3))
    exact bodyPost_end (results_none rfl _ _ _) rfl ⟨rfl, ⟨_, _, _, by
      rw [HF.out]
      exact HR3.out.mono fun q _ e => orR e fun e => Nat.le_trans HW1.out.size e⟩, ((Fr.below HW1.out).then (Fr.drewP _ W nq)).then HF3.out⟩
  by_cases h9 : m.kind = 9
  · have HF := hidP (show takeIn c m = takeAck c k m by rw [HF0.out, takeKind, if_neg (by omega), if_neg (by omega), if_neg (by omega), if_neg (by omega), if_neg (by omega), if_neg (by omega), if_neg (by omega), if_pos h9])
    have HC := hidP (HA9.out h9)
    rw [h9] at HC ⊢
    clear HA1 HA2 HA3 HA4 HA5 HA7 HA8 HA9 HF0 h9
    go_enter Try.func70, Try.ntmps70
    go_wp2_with fail
    refine wp_genP (fun W => Below w.heap.size w W ∧ w.heap.size < W.heap.size ∧ W.cell? ⟨b, k * 15, none⟩ = some (.bool true) ∧ W.cell? ⟨b, k * 15 + 1, none⟩ = some (.int .i64 (c.nodes k).follows) ∧ W.heap[w.heap.size]? = some (.cells #[.int .i64 9, .int .i64 m.frm, .int .i64 k, .int .i64 m.epoch, .int .i64 m.n, .slice ro rl rc] 101)) ⟨HB0.out _, by simp, by simp [World.cell?_alloc_some, u0], by simp [World.cell?_alloc_some, u1], heap_alloc_new w _⟩ ?_
    rintro W ⟨hW1, hW2, v0, v1, hW3⟩
    have m0 : W.cell? ⟨w.heap.size, 0, none⟩ = some (.int .i64 9) := (cell_of_row _ _ _ _ _ _ hW3).trans rfl
    have m1 : W.cell? ⟨w.heap.size, 1, none⟩ = some (.int .i64 m.frm) := (cell_of_row _ _ _ _ _ _ hW3).trans rfl
    have m2 : W.cell? ⟨w.heap.size, 2, none⟩ = some (.int .i64 k) := (cell_of_row _ _ _ _ _ _ hW3).trans rfl
    have m3 : W.cell? ⟨w.heap.size, 3, none⟩ = some (.int .i64 m.epoch) := (cell_of_row _ _ _ _ _ _ hW3).trans rfl
    have m4 : W.cell? ⟨w.heap.size, 4, none⟩ = some (.int .i64 m.n) := (cell_of_row _ _ _ _ _ _ hW3).trans rfl
    have m5 : W.cell? ⟨w.heap.size, 5, none⟩ = some (.slice ro rl rc) := (cell_of_row _ _ _ _ _ _ hW3).trans rfl
    have HW1 := hidP hW1
    clear hW1 hW3 u0 u1
    go_quiet (first | (go_at_call 51; refine Calls.quiet_of_same (isNode_any _ _)))
    go_wp2_with (first | (go_at_call 98; refine (HC.out (W.drewN nq) (HW1.out.trans ⟨rfl, rfl, rfl, Nat.le_refl _, fun _ _ => rfl⟩)).mono ?_; rintro e w3 ⟨rfl, ⟨lv3, uv3, mv3, hR3⟩, hF3⟩; have HR3 := hidP hR3; have HF3 := hidP hF3; clear hR3 hF3))
    exact bodyPost_end (results_none rfl _ _ _) rfl ⟨rfl, ⟨_, _, _, by
      rw [HF.out]
      exact HR3.out.mono fun q _ e => orR e fun e => Nat.le_trans HW1.out.size e⟩, ((Fr.below HW1.out).then (Fr.drewP _ W nq)).then HF3.out⟩
  have HF := hidP (show takeIn c m = c by rw [HF0.out, takeKind, if_neg h1, if_neg h2, if_neg h3, if_neg h4, if_neg h5, if_neg h7, if_neg h8, if_neg h9])
  have b1 : (m.kind == 1) = false := by simp [h1]
  have b2 : (m.kind == 2) = false := by simp [h2]
  have b3 : (m.kind == 3) = false := by simp [h3]
  have b4 : (m.kind == 4) = false := by simp [h4]
  have b5 : (m.kind == 5) = false := by simp [h5]
  have b7 : (m.kind == 7) = false := by simp [h7]
  have b8 : (m.kind == 8) = false := by simp [h8]
  have b9 : (m.kind == 9) = false := by simp [h9]
  clear h1 h2 h3 h4 h5 h7 h8 h9 HF0 HA1 HA2 HA3 HA4 HA5 HA7 HA8 HA9
  go_enter Try.func70, Try.ntmps70
  go_wp2_with fail
  refine wp_genP (fun W => Below w.heap.size w W ∧ w.heap.size < W.heap.size ∧ W.cell? ⟨b, k * 15, none⟩ = some (.bool true) ∧ W.cell? ⟨b, k * 15 + 1, none⟩ = some (.int .i64 (c.nodes k).follows) ∧ W.heap[w.heap.size]? = some (.cells #[.int .i64 m.kind, .int .i64 m.frm, .int .i64 k, .int .i64 m.epoch, .int .i64 m.n, .slice ro rl rc] 101)) ⟨HB0.out _, by simp, by simp [World.cell?_alloc_some, u0], by simp [World.cell?_alloc_some, u1], heap_alloc_new w _⟩ ?_
  rintro W ⟨hW1, hW2, v0, v1, hW3⟩
  have m0 : W.cell? ⟨w.heap.size, 0, none⟩ = some (.int .i64 m.kind) := (cell_of_row _ _ _ _ _ _ hW3).trans rfl
  have m1 : W.cell? ⟨w.heap.size, 1, none⟩ = some (.int .i64 m.frm) := (cell_of_row _ _ _ _ _ _ hW3).trans rfl
  have m2 : W.cell? ⟨w.heap.size, 2, none⟩ = some (.int .i64 k) := (cell_of_row _ _ _ _ _ _ hW3).trans rfl
  have m3 : W.cell? ⟨w.heap.size, 3, none⟩ = some (.int .i64 m.epoch) := (cell_of_row _ _ _ _ _ _ hW3).trans rfl
  have m4 : W.cell? ⟨w.heap.size, 4, none⟩ = some (.int .i64 m.n) := (cell_of_row _ _ _ _ _ _ hW3).trans rfl
  have m5 : W.cell? ⟨w.heap.size, 5, none⟩ = some (.slice ro rl rc) := (cell_of_row _ _ _ _ _ _ hW3).trans rfl
  have HW1 := hidP hW1
  clear hW1 hW3 u0 u1
  go_quiet (first | (go_at_call 51; refine Calls.quiet_of_same (isNode_any _ _)))
  go_wp2
  exact bodyPost_end (results_none rfl _ _ _) rfl ⟨rfl, ⟨_, _, _, by rw [HF.out]; exact (((H.out.mono (S' := Ext S w) fun q _ e => Or.inl e).below HW1.out).same fun _ _ _ => rfl)⟩, (Fr.below HW1.out).then (Fr.drewP _ W nq)⟩
set_option maxHeartbeats 16000000 in
set_option maxRecDepth 100000 in
theorem takeIn_any (h : Rep w S b c lv ev uv mv) (hok : Ok c) (m : Msg) (hp : Fit m) (rv : Value) (hrv : w.ownsRow 0 36 3 rv m.recs.length (recCells m.recs))
    (hl60 : ∀ k, k < 5 → m.kind = 8 → m.n = ((c.nodes k).log.length : Int) → (c.nodes k).log.length < 60) :
    Calls Try.prog 70 #[.pointer (some ⟨b, 0, none⟩), msgVal m rv] w fun e w' =>
      e = .returned (.tuple #[]) ∧ (∃ lv' uv' mv', Rep w' (Ext S w) b (takeIn c m) lv' ev uv' mv') ∧ Fr S w w' := by
  by_cases hto : m.to = -1
  rotate_left
  · obtain ⟨k, hk⟩ := Int.eq_ofNat_of_zero_le (show 0 ≤ m.to by have := hp.to.1; omega)
    exact takeInTo_any h hok m hp k (by have := hp.to.2; omega) hk rv hrv hl60
  obtain ⟨ro, rc, rfl, _, _, hrp⟩ := ownsRow_shape hrv
  have HF := hidP (show takeIn c m = takeReady c m by unfold takeIn; rw [if_pos hto])
  have HB0 := hidP (show ∀ o : Obj, Below w.heap.size w (w.alloc o) from fun o => (Below.refl _ _).alloc (Nat.le_refl _) o)
  have HC := hidP (fun (W : World) (hW : Below w.heap.size w W) => takeReady_any (h.below hW) hok m ro m.recs.length rc)
  have hb := h.lt
  unfold msgVal at HC ⊢
  rw [hto] at HC ⊢
  generalize m.recs.length = rl at *
  clear h hok hp hrv hrp hl60 hto
  go_enter Try.func70, Try.ntmps70
  go_wp2_with fail
  refine (HC.out _ (HB0.out _)).mono ?_
  rintro e w3 ⟨rfl, ⟨uv3, mv3, hR3⟩, hF3⟩
  have HR3 := hidP hR3
  have HF3 := hidP hF3
  clear hR3 hF3
  go_wp2
  exact bodyPost_ret (results_none rfl _ _ _) rfl ⟨rfl, ⟨_, _, _, by
    rw [HF.out]
    exact HR3.out.mono fun q _ e => orR e fun e => Nat.le_trans (HB0.out _).size e⟩, (Fr.alloc _ _ _).then HF3.out⟩
end
end Go.Proofs.Ythpjcmilfipbaaa

namespace Go.Proofs.Ythpjcmilfipbaaa
set_option linter.unusedVariables false
set_option linter.unusedSimpArgs false
open Go.RowKit
theorem infoEp : (Try.prog.info? 106).map (fun i => (i.zero, i.size, i.bytes)) = some (some (.agg #[.int .i64 0, .int .i64 0, .int .i64 0]), 3, 24) := by kernel_rfl
theorem Cells.setEps {cs : Array Value} {n : Nat → Nd} {a : Int} {lv : Nat → Value} {ev uv : Value} (h : Cells cs n a lv ev uv) (ev' : Value) : Cells (cs.setIfInBounds 75 ev') n a lv ev' uv :=
  h.put 75 ev' (by omega) (fun i hi => if_neg (by omega)) (fun i hi => if_neg (by omega)) (fun i hi => if_neg (by omega)) (fun i hi => if_neg (by omega)) (fun i hi => if_neg (by omega)) (fun i j hi hj => if_neg (by omega)) (fun i j hi hj => if_neg (by omega))
    (if_pos rfl) (if_neg (by omega)) (if_neg (by omega))
theorem epRow_one (x : Era) : ∀ u ∈ epRow x, u.oneCell' = true := by
  intro u hu
  simp only [epRow, List.mem_cons, List.not_mem_nil, or_false] at hu
  rcases hu with rfl | rfl | rfl <;> rfl
section
variable {w : World} {S : Nat → Prop} {b : Nat} {c : Clu} {lv : Nat → Value} {ev uv : Value} {mv : List (Msg × Value)}
/-- What an append to the list of epochs, and the store of the new list, come to. -/
theorem Rep.epoched {W w1 : World} (h : Rep w S b c lv ev uv mv) (hW : Fr No w W) (x : Era) (v' : Value) (n gg : Nat) (hn : n = c.epochs.length + 1) (hv' : v'.ownBlock = some gg)
    (hown : w1.ownsRow 0 106 3 v' n (epCells c.epochs ++ epRow x)) (hgrow : W.grownBy w1 ev.ownBlock) (hat : ev.ownBlock = some gg ∨ w.heap.size ≤ gg) :
    Rep (w1.setCell ⟨b, 75, none⟩ v') (Ext S w) b { c with epochs := c.epochs ++ [x] } lv v' uv mv ∧ Fr S w (w1.setCell ⟨b, 75, none⟩ v') := by
  obtain ⟨cs, hbl, hc⟩ := h.blk
  have hb := h.lt
  have hblkne : ∀ {g : Nat} {v : Value} {m : Nat} {xs : List Value} {e sz : Nat}, w.ownsRow 0 e sz v m xs → v.ownBlock = some g → e ≠ 94 → g ≠ b := by
    intro g v m xs e sz ho hg he
    obtain ⟨cu, hcu⟩ := ownsRow_block ho hg
    exact ne_of_type hcu hbl he
  have hgb : gg ≠ b := by
    rcases hat with e | e
    · exact hblkne h.eps e (by decide)
    · omega
  have hold : ∀ i, i < w.heap.size → ev.ownBlock ≠ some i → w1.heap[i]? = w.heap[i]? := fun i hi hu =>
    (hgrow.block i (Nat.lt_of_lt_of_le hi hW.size) (fun e => hu e.symm)).trans (hW.block i hi (fun e => e))
  have hset : ∀ i, i ≠ b → (w1.setCell ⟨b, 75, none⟩ v').heap[i]? = w1.heap[i]? := fun i hi => Below.heap_setCell _ _ _ _ hi
  have hub : ev.ownBlock ≠ some b := fun e => hblkne h.eps e (by decide) rfl
  have keep : ∀ {v : Value} {m : Nat} {xs : List Value} {e sz : Nat}, w.ownsRow 0 e sz v m xs → e ≠ 94 → e ≠ 106 → (w1.setCell ⟨b, 75, none⟩ v').ownsRow 0 e sz v m xs := by
    intro v m xs e sz ho he he2
    refine ownsRow_same ho fun g hg hl => ?_
    rw [hset g (hblkne ho hg he), hold g hl]
    intro hu
    obtain ⟨cu, hcu⟩ := ownsRow_block ho hg
    obtain ⟨cu', hcu'⟩ := ownsRow_block h.eps hu
    exact ne_of_type hcu hcu' he2 rfl
  refine ⟨?_, ?_⟩
  · exact { blk := ⟨_, heap_setCell_at _ _ _ _ _ _ _ ((hold b hb hub).trans hbl), hc.setEps v'⟩, inb := Or.inl h.inb
            logs := fun i hi => keep (h.logs i hi) (by decide) (by decide), logS := fun i g hi hg => Or.inl (h.logS i g hi hg), logD := h.logD
            eps := by
              show World.ownsRow _ 0 _ 3 v' (c.epochs ++ [x]).length (epCells (c.epochs ++ [x]))
              rw [epCells_append, List.length_append, List.length_singleton, ← hn]
              exact ownsRow_same (by simpa [epCells] using hown) fun g hg _ => hset g (by rw [hv'] at hg; simp at hg; omega)
            epS := fun g hg => by
              rw [hv'] at hg; simp at hg; subst hg
              rcases hat with e | e
              · exact Or.inl (h.epS _ e)
              · exact Or.inr e
            way := keep h.way (by decide) (by decide), wayS := fun g hg => Or.inl (h.wayS g hg), mvs := h.mvs
            recs := fun x hx => keep (h.recs x hx) (by decide) (by decide), recS := fun x g hx hg => Or.inl (h.recS x g hx hg), recD := h.recD }
  · have f1 : Fr S w w1 := (hW.mono (fun _ e => e.elim)).then (Fr.grown hgrow fun i hi => h.epS i hi)
    exact f1.then (Fr.setCell _ _ h.inb _)
theorem memB_bd {q : Int} (h : memB q = true) : 0 ≤ q ∧ q < 32 := by simp [memB] at h; omega
theorem addEpoch_ok (h : Ok c) (q l : Int) (hq : memB q = true) (h40 : c.epochs.length < 40) : Ok (addEpoch c q l) :=
  ⟨h.log, h.ways, by show (c.epochs ++ [_]).length ≤ 40; simp; omega, fun x hx => by
    have hx : x ∈ c.epochs ++ [⟨q, l, c.active⟩] := hx
    rcases List.mem_append.1 hx with hx | hx
    · exact h.mem x hx
    · simp at hx; subst hx; exact memB_bd hq⟩
set_option maxHeartbeats 3200000 in
set_option maxRecDepth 100000 in
theorem reconf_any (h : Rep w S b c lv ev uv mv) (hok : Ok c) (q l : Int) :
    Calls Try.prog 29 #[.pointer (some ⟨b, 0, none⟩), .int .i64 q, .int .i64 l] w fun e w' =>
      e = .returned (.int .i64 (reconf c q l).2) ∧ (∃ ev' uv' mv', Rep w' (Ext S w) b (reconf c q l).1 lv ev' uv' mv') ∧ Fr S w w' := by
  have u5 := h.cEps
  have u6 := h.cAct
  have z5 := h.free 75
  have hb := h.lt
  have hown := hidP h.eps
  have hne : ev.ownBlock ≠ some b := by
    intro e
    obtain ⟨cs, hbl, _⟩ := h.blk
    obtain ⟨cu, hcu⟩ := ownsRow_block h.eps e
    exact ne_of_type hcu hbl (by decide) rfl
  obtain ⟨ao, cap, rfl, hcap, _, hpos⟩ := ownsRow_shape h.eps
  have H := hidP h
  have HO := hidP hok
  have he40 := hok.eps
  clear h hok hpos hcap
  cases hq : memB q
  · have HT := hidP (show reconf c q l = (c, 10) by unfold reconf; rw [hq]; rfl)
    go_enter Try.func29, Try.ntmps29
    go_wp2_with (first | (go_at_call 57; refine (areMembers_any _ _).mono ?_; rintro e w' ⟨rfl, hw1⟩; rw [hw1]; clear hw1))
    go_ret
    rw [HT.out]
    exact ⟨rfl, ⟨_, _, _, H.out.mono fun q _ e => Or.inl e⟩, Fr.refl _ _⟩
  obtain ⟨hq0, hq1⟩ := memB_bd hq
  cases hl : amongB q l
  · have HT := hidP (show reconf c q l = (c, 10) by unfold reconf; rw [if_neg (by rw [hl]; simp)])
    go_enter Try.func29, Try.ntmps29
    go_wp2_with (first | (go_at_call 57; refine (areMembers_any _ _).mono ?_; rintro e w' ⟨rfl, hw1⟩; rw [hw1]; clear hw1) | (go_at_call 58; refine (isAmong_any _ hq0 hq1 _ _).mono ?_; rintro e w' ⟨rfl, hw1⟩; rw [hw1]; clear hw1))
    go_ret
    rw [HT.out]
    exact ⟨rfl, ⟨_, _, _, H.out.mono fun q _ e => Or.inl e⟩, Fr.refl _ _⟩
  by_cases h40 : 40 ≤ c.epochs.length
  · have HT := hidP (show reconf c q l = (c, 11) by unfold reconf; rw [if_pos ⟨hq, hl⟩, if_pos h40])
    have h40' : (40 : Int) ≤ (c.epochs.length : Int) := by omega
    go_enter Try.func29, Try.ntmps29
    go_wp2_with (first | (go_at_call 57; refine (areMembers_any _ _).mono ?_; rintro e w' ⟨rfl, hw1⟩; rw [hw1]; clear hw1) | (go_at_call 58; refine (isAmong_any _ hq0 hq1 _ _).mono ?_; rintro e w' ⟨rfl, hw1⟩; rw [hw1]; clear hw1))
    go_ret
    rw [HT.out]
    exact ⟨rfl, ⟨_, _, _, H.out.mono fun q _ e => Or.inl e⟩, Fr.refl _ _⟩
  have HT := hidP (show reconf c q l = (sendToLeader (addEpoch c q l) 1, 0) by unfold reconf; rw [if_pos ⟨hq, hl⟩, if_neg h40])
  have HO2 := hidP (addEpoch_ok HO.out q l hq (by omega))
  have h40' : (c.epochs.length : Int) < (40 : Int) := by omega
  have h40n : c.epochs.length < 40 := by omega
  clear h40
  obtain ⟨i0, hi0, hz0, hz1, hz2⟩ := info_parts infoEp
  have hnews := epRow_one ⟨q, l, c.active⟩
  go_enter Try.func29, Try.ntmps29
  go_wp2_with (first | (go_at_call 57; refine (areMembers_any _ _).mono ?_; rintro e w' ⟨rfl, hw1⟩; rw [hw1]; clear hw1) | (go_at_call 58; refine (isAmong_any _ hq0 hq1 _ _).mono ?_; rintro e w' ⟨rfl, hw1⟩; rw [hw1]; clear hw1))
  go_region_law ((refine step_append_lies _ (by rfl) _ _ _ (by rfl) 0 106 i0 _ 3 24 Try.underlying91 hi0 hz0 hz1 hz2 rfl (by omega) (.slice ao c.epochs.length cap) c.epochs.length (epCells c.epochs) (by rfl) ((hown.out.alloc _).drew) ⟨w.heap.size, 0, none⟩ 1 1 (epRow ⟨q, l, c.active⟩) (by rfl) (by rfl) (World.news_of_block (cs := (epRow ⟨q, l, c.active⟩).toArray) (t := 106) (fr := (0, 0)) (heap_alloc_new w _)) hnews (by omega) (by unfold maxLen; omega) (by omega) (by omega) (w.heap.size + 1) (by simp) ?_; intro gg cap' w1 hown1 hgrow hat hlt2; have hc5 : w1.cell? ⟨b, 75, none⟩ = some (.slice ao c.epochs.length cap) := (by rw [hgrow.cell_far _ (by simp; omega) (Ne.symm hne)]; simp [World.cell?_alloc_some, u5]); have hf5 : w1.frozen? ⟨b, 75, none⟩ = false := (by rw [hgrow.frozen_far _ (by simp; omega) (Ne.symm hne)]; simp [frozen?_alloc_cells, z5])))
  all_goals
    have R := H.out.epoched (W := (w.alloc _).drew) ((Fr.alloc _ _ _).then (Fr.drew _ _)) ⟨q, l, c.active⟩ (.slice (some ⟨gg, 0, none⟩) (c.epochs.length + 1) cap') (c.epochs.length + 1) gg rfl rfl hown1 hgrow (orR hat fun e => by omega)
    have HR1 : Hid (Rep _ (Ext S w) b (addEpoch c q l) lv _ uv mv) := R.1
    have HR2 := hidP R.2
    clear R hown1 hgrow hat hlt2 hc5 hf5
    go_wp2_with fail
    refine (sendToLeader_any HR1.out HO2.out 1).mono ?_
    rintro e w4 ⟨rfl, ⟨uv4, mv4, hR4⟩, hF4⟩
    have HR4 := hidP hR4
    have HF4 := hidP hF4
    clear hR4 hF4
    go_wp2
    go_ret
    rw [HT.out]
    exact ⟨rfl, ⟨_, _, _, HR4.out.mono fun q _ e => Ext.sub HR2.out.size q e⟩, HR2.out.trans HF4.out⟩
end
end Go.Proofs.Ythpjcmilfipbaaa
