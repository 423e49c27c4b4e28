/- My own text. Walks of package ledgerref: leads (Serve; all), master. -/
import Derived.Test.YthpfgmdffendoaaRefLeads2
namespace Go.Proofs.Ythpfgmdffendoaa
set_option linter.unusedVariables false
set_option linter.unusedSimpArgs false
open Go.RowKit
/-- Serve's loop behind j rounds. -/
def serveTo (d : Wd) (k j : Nat) : Wd := d.put k { d.mem k with role := 3, knows := fun i => if i < j then ((d.mem k).log.length : Int) else (d.mem k).knows i }
section
variable {w : World} {S : Nat → Prop} {b : Nat} {d : Wd} {ev uv : Value}

set_option maxHeartbeats 6400000 in
set_option maxRecDepth 100000 in
theorem rleads_serve (h : RRep w S b d ev uv) (hok : ROk d) (k : Nat) (hk : k < 5) (m : Msg) (hk7 : m.kind = 7) (hr2 : (d.mem k).role = 2) :
    Calls Try.prog 86 #[.pointer (some ⟨b, 0, none⟩), .int .i64 k, letVal m] w fun e w' =>
      e = .returned (.tuple #[]) ∧ (∃ uv', RRep w' (Ext S w) b (rLeads d k m) ev uv') ∧ Fr S w w' := by
  obtain ⟨m0, m1, m2, m3, m4, m5, m6, m7, m8, m9, m10, m11, m12, m13, m14⟩ := h.member k hk
  have hb := h.lt
  have z3 := h.free (k * 15 + 3)
  have hlen := hok.log k hk
  have HF : Hid (rLeads d k m = rServe d k) := by
    show rLeads d k m = _
    rw [rLeads, if_neg (by omega), if_neg (by omega), if_pos ⟨hk7, hr2⟩]
  have H : Hid (RRep w S b d ev uv) := h
  have b3 : (m.kind == 3) = false := by simp [hk7]
  have b5 : (m.kind == 5) = false := by simp [hk7]
  have b7 : (m.kind == 7) = true := by simp [hk7]
  have br : ((d.mem k).role == 2) = true := by simp [hr2]
  unfold letVal
  clear h hok hk7 hr2
  have hnb0 : ¬ b = w.heap.size := by omega
  have hnb1 : ¬ b = w.heap.size + 1 := by omega
  have hnb2 : ¬ w.heap.size + 1 = b := by omega
  go_enter Try.func86, Try.ntmps86
  go_wp2_with fail
  refine wp_genR (fun W => RRep W S b (serveTo d k 0) ev uv ∧ Fr S w W ∧ Copy W (w.heap.size + 1) (d.mem k)) ?_ ?_
  · have q := H.out.setRole k hk 3
    refine ⟨((q.1.alloc _).alloc _).cong _ rfl rfl rfl (fun i hi => ?_), q.2.then ((Fr.alloc _ _ _).then (Fr.alloc _ _ _)), ?_⟩
    · simp only [serveTo, rRole, put_mem]
      by_cases e : i = k
      · subst e; simp
      · simp [e]
    · have hz : (w.setCell ⟨b, k * 15 + 3, none⟩ (.int .i64 3)).heap.size = w.heap.size := by simp [World.setCell]
      have q2 := copy_alloc ((w.setCell ⟨b, k * 15 + 3, none⟩ (.int .i64 3)).alloc (.cells #[.int .i64 m.kind, .int .i64 m.frm, .int .i64 m.to, .int .i64 m.epoch, .int .i64 m.n, .string (encB m.recs)] 129)) (d.mem k)
      simpa [hz] using q2
  rintro W ⟨hWR, hWB, hWC⟩
  have HWR : Hid (RRep W S b (serveTo d k 0) ev uv) := hWR
  have HWB : Hid (Fr S w W) := hWB
  have HWC : Hid (Copy W (w.heap.size + 1) (d.mem k)) := hWC
  clear hWR hWB hWC m0 m1 m2 m3 m4 m5 m6 m7 m8 m9 m10 m11 m12 m13 m14 z3
  have hk0 : (0 : Int) ≤ (k : Int) := by omega
  have hk1 : (k : Int) < 5 := by omega
  go_loopw [9] (fun t wr => ∃ j : Nat, j ≤ 5 ∧ t = .int .i64 j ∧ RRep wr S b (serveTo d k j) ev uv ∧ Fr S w wr ∧ Copy wr (w.heap.size + 1) (d.mem k)) (fun t _ => 5 - (intOf t).toNat)
  case atStart => exact ⟨0, Nat.zero_le _, rfl, HWR.out, HWB.out, HWC.out⟩
  case round =>
    obtain ⟨j, hj5, rfl, hRr, hFr, hCr⟩ := hrel
    obtain ⟨_, _, _, f4⟩ := hCr.cells
    have HWr : Hid (RRep wr S b (serveTo d k j) ev uv) := hRr
    have HFr : Hid (Fr S w wr) := hFr
    have HCr : Hid (Copy wr (w.heap.size + 1) (d.mem k)) := hCr
    by_cases hj : j < 5
    · have cK := hRr.cKno k j hk hj
      have zK := hRr.free (k * 15 + 5 + j)
      have hbr := hRr.lt
      have hj0 : (0 : Int) ≤ (j : Int) := by omega
      have hj1 : (j : Int) < 5 := by omega
      clear hRr hFr hCr
      have HSet : Hid (∀ W1 : World, RRep W1 S b (serveTo d k j) ev uv → RRep (W1.setCell ⟨b, k * 15 + 5 + j, none⟩ (.int .i64 ((d.mem k).log.length : Int))) S b (serveTo d k (j + 1)) ev uv ∧ Fr S W1 (W1.setCell ⟨b, k * 15 + 5 + j, none⟩ (.int .i64 ((d.mem k).log.length : Int)))) := fun W1 h1 => by
        have q := h1.setKnows1 k hk j hj ((d.mem k).log.length : Int)
        refine ⟨q.1.cong _ rfl rfl rfl (fun i hi => ?_), q.2⟩
        by_cases e : i = k
        · subst e
          refine ⟨by simp [serveTo, put_mem], by simp [serveTo, put_mem], by simp [serveTo, put_mem], by simp [serveTo, put_mem], by simp [serveTo, put_mem], fun q hq => ?_, fun q hq => by simp [serveTo, put_mem]⟩
          simp only [serveTo, put_mem, if_true, upd]
          by_cases e2 : q = j
          · subst e2; simp
          · simp only [e2, if_false]
            by_cases e3 : q < j
            · rw [if_pos (by omega), if_pos e3]
            · rw [if_neg (by omega), if_neg e3]
        · simp [serveTo, put_mem, e]
      go_wp2_with fail
      go_region_held3 (fun w' => w'.cell? ⟨w.heap.size + 1, 4, none⟩ = some (.string (encB (d.mem k).log)))
        (first
          | (simp only [World.cell?_drew, f4]; done)
          | (go_keep; done))
        (first
          | (go_at_call 60; refine (rcount_any _ hlen _).mono ?_; rintro e w1 ⟨rfl, hw1⟩; rw [hw1]; clear hw1))
      all_goals
        have q := HSet.out _ HWr.out.drew
        have HN : Hid (RRep (wr.drew.setCell ⟨b, k * 15 + 5 + j, none⟩ (.int .i64 ((d.mem k).log.length : Int))) S b (serveTo d k (j + 1)) ev uv) := q.1
        have HNF : Hid (Fr S w (wr.drew.setCell ⟨b, k * 15 + 5 + j, none⟩ (.int .i64 ((d.mem k).log.length : Int)))) := HFr.out.then ((Fr.drew _ wr).then q.2)
        have HNC : Hid (Copy (wr.drew.setCell ⟨b, k * 15 + 5 + j, none⟩ (.int .i64 ((d.mem k).log.length : Int))) (w.heap.size + 1) (d.mem k)) := HCr.out.drewC.same (Below.heap_setCell _ _ _ _ hnb2)
        clear q
        go_wp2
        go_roundw
        case rel => exact ⟨j + 1, by omega, by go_num, HN.out, HNF.out, HNC.out⟩
        case measure => simp [intOf]; omega
    · have : j = 5 := by omega
      subst this
      clear hRr hFr hCr
      go_wp2_with fail
      refine bodyPost_end (results_none rfl _ _ _) rfl ⟨rfl, ⟨uv, ?_⟩, HFr.out⟩
      rw [HF.out]
      refine (HWr.out.cong (rServe d k) rfl rfl rfl (fun i hi => ?_)).mono fun _ _ e => Or.inl e
      by_cases e : i = k
      · subst e
        refine ⟨by simp [serveTo, rServe, put_mem], by simp [serveTo, rServe, put_mem], by simp [serveTo, rServe, put_mem], by simp [serveTo, rServe, put_mem], by simp [serveTo, rServe, put_mem], fun q hq => by simp [serveTo, rServe, put_mem, hq], fun q hq => by simp [serveTo, rServe, put_mem]⟩
      · simp [serveTo, rServe, put_mem, e]

theorem rleads_any (h : RRep w S b d ev uv) (hok : ROk d) (k : Nat) (hk : k < 5) (m : Msg) (hm : MsgOk d.eras.length m) :
    Calls Try.prog 86 #[.pointer (some ⟨b, 0, none⟩), .int .i64 k, letVal m] w fun e w' =>
      e = .returned (.tuple #[]) ∧ (∃ uv', RRep w' (Ext S w) b (rLeads d k m) ev uv') ∧ Fr S w w' := by
  by_cases h3 : m.kind = 3 ∧ (d.mem k).role = 1
  · exact rleads_log h hok k hk m hm h3.1 h3.2
  by_cases h5 : m.kind = 5 ∧ (d.mem k).role = 2
  · exact rleads_have h hok k hk m hm h5.1 h5.2
  by_cases h7 : m.kind = 7 ∧ (d.mem k).role = 2
  · exact rleads_serve h hok k hk m h7.1 h7.2
  by_cases h9 : m.kind = 9 ∧ (d.mem k).role = 3
  · exact rleads_ack h hok k hk m hm h9.1 h9.2
  · exact rleads_idle h k hk m h3 h5 h7 h9

set_option maxHeartbeats 1600000 in
theorem rmaster_any (h : RRep w S b d ev uv) (hok : ROk d) (q : Nat) (hq : q < d.eras.length) :
    Calls Try.prog 81 #[.pointer (some ⟨b, 0, none⟩), .int .i64 ((q : Int) + 1)] w fun e w' =>
      e = .returned (.tuple #[]) ∧ (∃ uv', RRep w' (Ext S w) b (rMaster d ((q : Int) + 1)) ev uv') ∧ Fr S w w' := by
  have c75 := h.cEras
  have c76 := h.cAct
  have z76 := h.free 76
  have hb := h.lt
  have h40 := hok.e40
  have hown := h.eras
  obtain ⟨ao, cap, hev, _, _, hpos⟩ := ownsRow_shape h.eras
  obtain ⟨g, rfl⟩ := hpos (by omega)
  rw [hev] at c75 hown
  obtain ⟨_, cl, _⟩ := era_cells hown q d.eras[q] (by simp [hq])
  have hgb : ¬ b = g := by
    intro e
    obtain ⟨cs, hbl, _⟩ := h.blk
    obtain ⟨cu, hcu⟩ := ownsRow_block hown (g := g) rfl
    exact ne_of_type hbl hcu (by decide) e
  have H : Hid (RRep w S b d ev uv) := h
  have hway := hok.way
  clear h hok hown hev hpos
  by_cases he : q + 1 = d.eras.length
  · have be : ((q : Int) + 1 == (d.eras.length : Int)) = true := by simp; omega
    have HF : Hid (rMaster d ((q : Int) + 1) = rSends { d with active := (q : Int) + 1 } { kind := 7, frm := -1, to := d.eras[q].leader, epoch := (q : Int) + 1, n := 0, recs := [] }) := by
      show rMaster d ((q : Int) + 1) = _
      have e1 : ((q : Int) + 1 - 1).toNat = q := by omega
      rw [rMaster, if_pos (by omega), Wd.era, e1]
      simp [hq]
    generalize d.eras[q].leader = ld at cl HF
    clear he
    go_enter Try.func81, Try.ntmps81
    go_wp2_with fail
    have q1 := H.out.setCell 76 (.int .i64 ((q : Int) + 1)) { d with active := (q : Int) + 1 } rfl rfl (fun cs hcs => hcs.setAct _)
    refine (rsends_any q1.1 hway { kind := 7, frm := -1, to := ld, epoch := (q : Int) + 1, n := 0, recs := [] } _ rfl).mono ?_
    rintro e w3 ⟨rfl, ⟨uv3, hR3⟩, hF3⟩
    have HR3 : Hid _ := hR3
    have HF3 : Hid (Fr S w w3) := q1.2.then hF3
    clear hR3 hF3 q1
    go_wp2
    exact bodyPost_end (results_none rfl _ _ _) rfl ⟨rfl, ⟨uv3, by rw [HF.out]; exact HR3.out.mono fun _ _ e => orR e fun e => by simp [World.setCell] at e; exact e⟩, HF3.out⟩
  · have be : ((q : Int) + 1 == (d.eras.length : Int)) = false := by simp; omega
    have HF : Hid (rMaster d ((q : Int) + 1) = d) := by show rMaster d ((q : Int) + 1) = _; rw [rMaster, if_neg (by omega)]
    clear he
    go_enter Try.func81, Try.ntmps81
    go_wp2
    exact bodyPost_end (results_none rfl _ _ _) rfl ⟨rfl, ⟨uv, by rw [HF.out]; exact H.out.mono fun _ _ e => Or.inl e⟩, Fr.refl _ _⟩
end
end Go.Proofs.Ythpfgmdffendoaa
