/- My own text: several texts in one. -/
import Derived.Test.YthpjcmilfipbaaaP4
import Derived.Deep.RegionHeld3
import Derived.Deep.QuietTactic
import Derived.BigQuiet
import Derived.BigRegion
namespace Go.Proofs.Ythpjcmilfipbaaa
set_option linter.unusedVariables false
set_option linter.unusedSimpArgs false
open Go.RowKit
section
variable {w : World} {S : Nat → Prop} {b : Nat} {c : Clu} {lv : Nat → Value} {ev uv : Value} {mv : List (Msg × Value)}
/-- A message that was taken out: its own copy. -/
structure Got (w W : World) (m : Msg) (r : Rec) (rg rc : Nat) : Prop where
  blk : W.heap[w.heap.size]? = some (.cells #[.int .i64 m.kind, .int .i64 m.frm, .int .i64 m.to, .int .i64 m.epoch, .int .i64 m.n, .slice (some ⟨rg, 0, none⟩) 1 rc] 101)
theorem Got.cells {w W : World} {m : Msg} {r : Rec} {rg rc : Nat} (h : Got w W m r rg rc) :
    W.cell? ⟨w.heap.size, 0, none⟩ = some (.int .i64 m.kind) ∧ W.cell? ⟨w.heap.size, 1, none⟩ = some (.int .i64 m.frm) ∧ W.cell? ⟨w.heap.size, 2, none⟩ = some (.int .i64 m.to) ∧ W.cell? ⟨w.heap.size, 3, none⟩ = some (.int .i64 m.epoch) ∧
    W.cell? ⟨w.heap.size, 4, none⟩ = some (.int .i64 m.n) ∧ W.cell? ⟨w.heap.size, 5, none⟩ = some (.slice (some ⟨rg, 0, none⟩) 1 rc) :=
  ⟨(cell_of_row _ _ _ _ _ _ h.blk).trans rfl, (cell_of_row _ _ _ _ _ _ h.blk).trans rfl, (cell_of_row _ _ _ _ _ _ h.blk).trans rfl, (cell_of_row _ _ _ _ _ _ h.blk).trans rfl, (cell_of_row _ _ _ _ _ _ h.blk).trans rfl, (cell_of_row _ _ _ _ _ _ h.blk).trans rfl⟩
/-- The cluster's blocks, none of the caller's two new ones among them. -/
def Past (S : Nat → Prop) (w : World) : Nat → Prop := fun q => (S q ∧ q < w.heap.size) ∨ w.heap.size + 2 ≤ q
theorem Past.ext {S : Nat → Prop} {w : World} (q : Nat) (h : Past S w q) : Ext S w q := by
  rcases h with h | h
  · exact Or.inl h.1
  · exact Or.inr (by omega)
theorem Past.not {S : Nat → Prop} {w : World} : ¬ Past S w w.heap.size := fun h => by
  rcases h with h | h <;> omega
set_option maxHeartbeats 64000000 in
set_option maxRecDepth 100000 in
theorem takeApp_any (h : Rep w S b c lv ev uv mv) (hok : Ok c) (k : Nat) (hk : k < 5) (m : Msg) (hto : m.to = k) (r : Rec) (hm1 : m.recs = [r]) (rg rc : Nat) (hrv : w.ownsRow 0 36 3 (.slice (some ⟨rg, 0, none⟩) 1 rc) 1 (recCells [r]))
    (hl60 : m.n = ((c.nodes k).log.length : Int) → (c.nodes k).log.length < 60) :
    Calls Try.prog 97 #[.pointer (some ⟨b, 0, none⟩), msgVal m (.slice (some ⟨rg, 0, none⟩) 1 rc)] w fun e w' =>
      e = .returned (.tuple #[]) ∧ (∃ lv' uv' mv', Rep w' (Ext S w) b (takeApp c k m) lv' ev uv' mv') ∧ Fr S w w' := by
  unfold msgVal
  obtain ⟨ao, cap, hlv, hcap, _, hpos⟩ := ownsRow_shape (h.logs k hk)
  have hb := h.lt
  have hlen := hok.log k hk
  have H := hidP h
  have HO := hidP hok
  have HRV := hidP hrv
  have HL := hidP hlv
  have HL60 := hidP hl60
  have HM1 := hidP hm1
  have hk0 : (0 : Int) ≤ (k : Int) := by omega
  have hk1 : (k : Int) < 5 := by omega
  have HTO := hidP hto
  clear h hok hrv hlv hpos hcap hl60 hm1 hto
  go_enter Try.func97, Try.ntmps97
  go_wp2_with fail
  refine wp_genP (fun W => Rep W S b c lv ev uv mv ∧ Below w.heap.size w W ∧ W.heap.size = w.heap.size + 1 ∧ Got w W m r rg rc) ⟨H.out.alloc _, (Below.refl _ _).alloc (Nat.le_refl _) _, by simp, ⟨heap_alloc_new w _⟩⟩ ?_
  rintro W ⟨hW1, hW2, hW3, hW4⟩
  obtain ⟨u0, u1, u2, u3, u4⟩ := hW1.node k hk
  obtain ⟨u5, u6, u7, u8, u9⟩ := hW1.nodeHas k hk
  obtain ⟨u10, u11, u12, u13, u14⟩ := hW1.nodeKno k hk
  obtain ⟨m0, m1, m2, m3, m4, m5⟩ := hW4.cells
  rw [HL.out] at u4
  rw [HTO.out] at m2
  have hbW := hW1.lt
  have hmW : w.heap.size < W.heap.size := by omega
  have HW1 := hidP hW1
  have HW2 := hidP hW2
  have HW3 := hidP hW3
  have HW4 := hidP hW4
  clear hW1 hW2 hW3 hW4
  have nb : ¬ b = W.heap.size := by omega
  have nm : ¬ w.heap.size = W.heap.size := by omega
  have HND := hidP (fun o : Obj => (show Rep (W.alloc o).drew (Past S w) b c lv ev uv mv from (((H.out.mono (S' := Past S w) fun q hq e => Or.inl ⟨e, hq⟩).below HW2.out).alloc o).drew))
  have HNB := hidP (fun o : Obj => (show Below w.heap.size w (W.alloc o).drew from (HW2.out.alloc (by omega) o).drew))
  go_region
  by_cases hcond : (c.nodes k).follows = m.epoch ∧ (c.nodes k).given = m.epoch ∧ (c.nodes k).role = 0
  · obtain ⟨hf, hg, hr⟩ := hcond
    have HT := hidP (show takeApp c k m = send (takePut c k m) (ackMsg k m ((takePut c k m).nodes k).log.length) by unfold takeApp; rw [if_pos ⟨hf, hg, hr⟩])
    have bf : ((c.nodes k).follows != m.epoch) = false := by simp [hf]
    have bg : ((c.nodes k).given != m.epoch) = false := by simp [hg]
    have br : ((c.nodes k).role != 0) = false := by simp [hr]
    clear hf hg hr
    cases hn : (m.n == ((c.nodes k).log.length : Int))
    · have HP := hidP (show takePut c k m = c by unfold takePut; rw [if_neg (by simpa using hn)])
      go_wp2_with fail
      refine wp_genP (fun V => Rep V (Past S w) b c lv ev uv mv ∧ Fr S w V ∧ w.heap.size < V.heap.size ∧ V.cell? ⟨w.heap.size, 1, none⟩ = some (.int .i64 m.frm) ∧ V.cell? ⟨w.heap.size, 2, none⟩ = some (.int .i64 k) ∧ V.cell? ⟨w.heap.size, 3, none⟩ = some (.int .i64 m.epoch)) ⟨HND.out _, Fr.below (HNB.out _), by simp; omega, by simp [World.cell?_alloc_some, m1], by simp [World.cell?_alloc_some, m2], by simp [World.cell?_alloc_some, m3]⟩ ?_
      rintro V ⟨hV1, hV2, hV3, e1, e2, e3⟩
      obtain ⟨ao1, cap1, hlv1, _⟩ := ownsRow_shape (hV1.logs k hk)
      have e4 := hV1.cLog k hk
      rw [hlv1] at e4
      have HV1 := hidP hV1
      have HV2 := hidP hV2
      have HLV1 := hidP hlv1
      have HVl := hidP hV3
      clear hV1 hV2 hV3 hlv1 u0 u1 u2 u3 u4 u5 u6 u7 u8 u9 u10 u11 u12 u13 u14 m0 m1 m2 m3 m4 m5
      have HSn := hidP (fun V' (hV' : Rep V' (Past S w) b c lv ev uv mv) => send_any hV' HO.out (ackMsg k m (c.nodes k).log.length) (.slice none 0 0) ⟨rfl, Or.inl ⟨rfl, rfl⟩⟩ (fun g hg => by simp [Value.ownBlock] at hg) (fun k g _ hg => by simp [Value.ownBlock] at hg))
      go_region_held3 (fun w' => w'.cell? ⟨w.heap.size, 1, none⟩ = some (.int .i64 m.frm) ∧ w'.cell? ⟨w.heap.size, 2, none⟩ = some (.int .i64 k) ∧ w'.cell? ⟨w.heap.size, 3, none⟩ = some (.int .i64 m.epoch) ∧ w'.cell? ⟨b, k * 15 + 4, none⟩ = some (.slice ao1 (c.nodes k).log.length cap1))
        (first
          | (simp only [World.cell?_drew, e1, e2, e3, e4, and_self]; done)
          | (simp only [World.cell?_drew, g1, g2, g3, g4, and_self]; done))
        (first
          | (go_at_call 50; refine (HSn.out V.drew HV1.out.drew).mono ?_; rintro e w3 ⟨rfl, ⟨uv3, mv3, hR3⟩, hF3⟩; have g4 : w3.cell? ⟨b, k * 15 + 4, none⟩ = some (.slice ao1 (c.nodes k).log.length cap1) := (hR3.cLog k hk).trans (congrArg some HLV1.out); have hbk : w3.heap[w.heap.size]? = V.heap[w.heap.size]? := hF3.block w.heap.size HVl.out Past.not; have g1 := (World.cell?_of_block (a := ⟨w.heap.size, 1, none⟩) hbk).trans e1; have g2 := (World.cell?_of_block (a := ⟨w.heap.size, 2, none⟩) hbk).trans e2; have g3 := (World.cell?_of_block (a := ⟨w.heap.size, 3, none⟩) hbk).trans e3; have HR3 := hidP hR3; have HF3 := hidP hF3; clear hR3 hF3 hbk))
      have hVw : w.heap.size ≤ V.heap.size := HV2.out.size
      exact bodyPost_end (results_none rfl _ _ _) rfl ⟨rfl, ⟨_, _, _, by
        rw [HT.out, HP.out]
        exact HR3.out.mono fun q _ e => by
          rcases e with e | e
          · exact Past.ext q e
          · exact Or.inr (Nat.le_trans hVw e)⟩, (HV2.out.then (Fr.drew _ _)).trans (HF3.out.mono fun q e => Past.ext q e)⟩
    · have hn' : m.n = ((c.nodes k).log.length : Int) := by simpa using hn
      have hl60 := HL60.out hn'
      have HP0 := hidP (show takePut c k m = putLog c k ((c.nodes k).log ++ [r]) by unfold takePut; rw [if_pos hn', HM1.out])
      clear hn'
      go_wp2_with fail
      refine wp_genP (fun V => Rep V (Past S w) b c lv ev uv mv ∧ Below w.heap.size w V ∧ w.heap.size + 2 ≤ V.heap.size ∧ V.cell? ⟨w.heap.size, 1, none⟩ = some (.int .i64 m.frm) ∧ V.cell? ⟨w.heap.size, 2, none⟩ = some (.int .i64 k) ∧ V.cell? ⟨w.heap.size, 3, none⟩ = some (.int .i64 m.epoch) ∧ V.cell? ⟨w.heap.size, 5, none⟩ = some (.slice (some ⟨rg, 0, none⟩) 1 rc)) ⟨HND.out _, HNB.out _, by simp; have := HW3.out; omega, by simp [World.cell?_alloc_some, m1], by simp [World.cell?_alloc_some, m2], by simp [World.cell?_alloc_some, m3], by simp [World.cell?_alloc_some, m5]⟩ ?_
      rintro V ⟨hV1, hV2, hV3, e1, e2, e3, e5⟩
      have hVb := hV1.lt
      have e4 := hV1.cLog k hk
      rw [HL.out] at e4
      have hfr := hV1.free (k * 15 + 4)
      have hown := hV1.logs k hk
      rw [HL.out] at hown
      have hne : (Value.slice ao (c.nodes k).log.length cap).ownBlock ≠ some b := by
        intro e
        obtain ⟨cs, hbl, _⟩ := hV1.blk
        obtain ⟨cu, hcu⟩ := ownsRow_block hown e
        exact ne_of_type hcu hbl (by decide) rfl
      have hnm : (Value.slice ao (c.nodes k).log.length cap).ownBlock ≠ some w.heap.size := fun e => by
        have := hV1.logS k _ hk (by rw [HL.out]; exact e)
        exact Past.not this
      have hrow := ownsRow_same (w' := V) HRV.out fun g _ hl => hV2.block g hl
      have HV1 := hidP hV1
      have HV2 := hidP hV2
      have hW := hidP hown
      have HRow := hidP hrow
      have hmV : w.heap.size < V.heap.size := by omega
      clear hV1 hV2 hown hrow u0 u1 u2 u3 u4 u5 u6 u7 u8 u9 u10 u11 u12 u13 u14 m0 m1 m2 m3 m4 m5
      obtain ⟨i0, hi0, hz0, hz1, hz2⟩ := info_parts infoRec
      have hnews := recRow_one r
      have HNw := hidP (fun j u (hu : (recRow r)[j]? = some u) => HRow.out.cells (g := rg) rfl j u (by simpa [recCells, recRow] using hu))
      go_region_law ((refine step_append_lies _ (by rfl) _ _ _ (by rfl) 0 36 i0 _ 3 24 Try.underlying53 hi0 hz0 hz1 hz2 rfl (by omega) (.slice ao (c.nodes k).log.length cap) (c.nodes k).log.length (recCells (c.nodes k).log) (by rfl) (hW.out.drew) ⟨rg, 0, none⟩ 1 rc (recRow r) (by rfl) (by rfl) HNw.out hnews (by omega) (by unfold maxLen; omega) (by omega) (by omega) V.heap.size rfl ?_; intro gg cap' w1 hown1 hgrow hat hlt2; have hc51 : w1.cell? ⟨b, k * 15 + 4, none⟩ = some (.slice ao (c.nodes k).log.length cap) := (by rw [hgrow.cell_far _ (by simpa using hVb) (Ne.symm hne)]; simp [e4]); have hf51 : w1.frozen? ⟨b, k * 15 + 4, none⟩ = false := (by rw [hgrow.frozen_far _ (by simpa using hVb) (Ne.symm hne)]; simpa using hfr); have q2 : w1.cell? ⟨w.heap.size, 2, none⟩ = some (.int .i64 k) := (by rw [hgrow.cell_far _ (by simpa using hmV) (Ne.symm hnm)]; simp [e2]); have q5 : w1.cell? ⟨w.heap.size, 5, none⟩ = some (.slice (some ⟨rg, 0, none⟩) 1 rc) := (by rw [hgrow.cell_far _ (by simpa using hmV) (Ne.symm hnm)]; simp [e5])))
      all_goals
        have R := HV1.out.logged (W := V.drew) (Fr.drew _ _) k hk ((c.nodes k).log ++ [r]) (.slice (some ⟨gg, 0, none⟩) ((c.nodes k).log.length + 1) cap') ((c.nodes k).log.length + 1) gg (by simp) rfl
          (by rw [recCells_append]; exact hown1) (by rw [HL.out]; exact hgrow) (by rw [HL.out]; exact orR hat fun e => by omega)
        have HO1 := hidP (putLog_ok HO.out k ((c.nodes k).log ++ [r]) (by simp; omega))
        have hbk : (w1.setCell ⟨b, k * 15 + 4, none⟩ (.slice (some ⟨gg, 0, none⟩) ((c.nodes k).log.length + 1) cap')).heap[w.heap.size]? = V.heap[w.heap.size]? := R.2.block w.heap.size hmV Past.not
        have R2 := R.1.mono (S' := Past S w) fun q _ e => by
          rcases e with e | e
          · exact e
          · exact Or.inr (by omega)
        have R3 : Fr S w (w1.setCell ⟨b, k * 15 + 4, none⟩ (.slice (some ⟨gg, 0, none⟩) ((c.nodes k).log.length + 1) cap')) := (Fr.below HV2.out).trans (R.2.mono fun q e => Past.ext q e)
        have R4 : w.heap.size < (w1.setCell ⟨b, k * 15 + 4, none⟩ (.slice (some ⟨gg, 0, none⟩) ((c.nodes k).log.length + 1) cap')).heap.size := Nat.lt_of_lt_of_le hmV R.2.size
        have q1 := (World.cell?_of_block (a := ⟨w.heap.size, 1, none⟩) hbk).trans e1
        have q2 := (World.cell?_of_block (a := ⟨w.heap.size, 2, none⟩) hbk).trans e2
        have q3 := (World.cell?_of_block (a := ⟨w.heap.size, 3, none⟩) hbk).trans e3
        clear hown1 hgrow hat hlt2 hc51 hf51 hnews hW hfr hne R hbk q5 HNw HRow HV1 HV2 e1 e2 e3 e4 e5 hVb hnm
        generalize w1.setCell _ _ = W2 at R2 R3 R4 q1 q2 q3 ⊢
        generalize hc1 : putLog c k ((c.nodes k).log ++ [r]) = c1 at R2 HO1
        generalize upd lv k _ = lv1 at R2
        have HP := hidP (show takePut c k m = c1 by rw [HP0.out, hc1])
        have HA := hidP R2
        have HB := hidP R3
        clear hc1 R2 R3
        generalize (c.nodes k).log.length = nlen at *
        go_wp2_with fail
        refine wp_genP (fun V => Rep V (Past S w) b c1 lv1 ev uv mv ∧ Fr S w V ∧ w.heap.size < V.heap.size ∧ V.cell? ⟨w.heap.size, 1, none⟩ = some (.int .i64 m.frm) ∧ V.cell? ⟨w.heap.size, 2, none⟩ = some (.int .i64 k) ∧ V.cell? ⟨w.heap.size, 3, none⟩ = some (.int .i64 m.epoch)) ⟨HA.out, HB.out, R4, q1, q2, q3⟩ ?_
        clear q1 q2 q3 R4 HA HB
        rintro V ⟨hV1, hV2, hV3, e1, e2, e3⟩
        obtain ⟨ao1, cap1, hlv1, _⟩ := ownsRow_shape (hV1.logs k hk)
        have e4 := hV1.cLog k hk
        rw [hlv1] at e4
        have HV1 := hidP hV1
        have HV2 := hidP hV2
        have HLV1 := hidP hlv1
        have HVl := hidP hV3
        clear hV1 hV2 hV3 hlv1
        have HSn := hidP (fun V' (hV' : Rep V' (Past S w) b c1 lv1 ev uv mv) => send_any hV' HO1.out (ackMsg k m (c1.nodes k).log.length) (.slice none 0 0) ⟨rfl, Or.inl ⟨rfl, rfl⟩⟩ (fun g hg => by simp [Value.ownBlock] at hg) (fun k g _ hg => by simp [Value.ownBlock] at hg))
        go_region_held3 (fun w' => w'.cell? ⟨w.heap.size, 1, none⟩ = some (.int .i64 m.frm) ∧ w'.cell? ⟨w.heap.size, 2, none⟩ = some (.int .i64 k) ∧ w'.cell? ⟨w.heap.size, 3, none⟩ = some (.int .i64 m.epoch) ∧ w'.cell? ⟨b, k * 15 + 4, none⟩ = some (.slice ao1 (c1.nodes k).log.length cap1))
          (first
            | (simp only [World.cell?_drew, e1, e2, e3, e4, and_self]; done)
            | (simp only [World.cell?_drew, g1, g2, g3, g4, and_self]; done))
          (first
            | (go_at_call 50; refine (HSn.out V.drew HV1.out.drew).mono ?_; rintro e w3 ⟨rfl, ⟨uv3, mv3, hR3⟩, hF3⟩; have g4 : w3.cell? ⟨b, k * 15 + 4, none⟩ = some (.slice ao1 (c1.nodes k).log.length cap1) := (hR3.cLog k hk).trans (congrArg some HLV1.out); have hbk : w3.heap[w.heap.size]? = V.heap[w.heap.size]? := hF3.block w.heap.size HVl.out Past.not; have g1 := (World.cell?_of_block (a := ⟨w.heap.size, 1, none⟩) hbk).trans e1; have g2 := (World.cell?_of_block (a := ⟨w.heap.size, 2, none⟩) hbk).trans e2; have g3 := (World.cell?_of_block (a := ⟨w.heap.size, 3, none⟩) hbk).trans e3; have HR3 := hidP hR3; have HF3 := hidP hF3; clear hR3 hF3 hbk))
        have hVw : w.heap.size ≤ V.heap.size := HV2.out.size
        exact bodyPost_end (results_none rfl _ _ _) rfl ⟨rfl, ⟨_, _, _, by
          rw [HT.out, HP.out]
          exact HR3.out.mono fun q _ e => by
            rcases e with e | e
            · exact Past.ext q e
            · exact Or.inr (Nat.le_trans hVw e)⟩, (HV2.out.then (Fr.drew _ _)).trans (HF3.out.mono fun q e => Past.ext q e)⟩
  · have HT := hidP (show takeApp c k m = c by unfold takeApp; rw [if_neg hcond])
    cases hf : ((c.nodes k).follows != m.epoch)
    · cases hg : ((c.nodes k).given != m.epoch)
      · have hr : ((c.nodes k).role != 0) = true := by
          simp at hf hg ⊢
          exact fun x => hcond ⟨hf, hg, x⟩
        clear hcond
        go_wp2
        exact bodyPost_ret (results_none rfl _ _ _) rfl ⟨rfl, ⟨_, _, _, by rw [HT.out]; exact (HND.out _).mono fun q _ e => Past.ext q e⟩, Fr.below (HNB.out _)⟩
      · clear hcond
        go_wp2
        exact bodyPost_ret (results_none rfl _ _ _) rfl ⟨rfl, ⟨_, _, _, by rw [HT.out]; exact (HND.out _).mono fun q _ e => Past.ext q e⟩, Fr.below (HNB.out _)⟩
    · clear hcond
      go_wp2
      exact bodyPost_ret (results_none rfl _ _ _) rfl ⟨rfl, ⟨_, _, _, by rw [HT.out]; exact (HND.out _).mono fun q _ e => Past.ext q e⟩, Fr.below (HNB.out _)⟩
end
end Go.Proofs.Ythpjcmilfipbaaa
