/- My own text: several texts in one. -/
import Derived.Test.YthpjcmilfipbaaaR4
namespace Go.Proofs.Ythpjcmilfipbaaa
set_option linter.unusedVariables false
set_option linter.unusedSimpArgs false
open Go.RowKit
theorem ROk.given {d : Wd} (h : ROk d) (k : Nat) (hk : k < 5) (e : Int) (l : List Rec) (hl : l.length ≤ 60) (hb : ∀ r ∈ l, recOk r) : ROk (rGiven d k e l) :=
  h.put k _ (h.fol k hk) (h.rol k hk) hl hb (fun j hj => h.kno k j hk hj)
theorem ROk.tell {d : Wd} (h : ROk d) (k : Nat) (hk : k < 5) (m : Msg) (hl : m.recs.length ≤ 60) (hb : ∀ r ∈ m.recs, recOk r) (hf : 1 ≤ (d.mem k).follows) : ROk (rTell d k m) :=
  h.put k _ (h.fol k hk) (fun _ => hf) hl hb (fun j hj => h.kno k j hk hj)
theorem ROk.hasN {d : Wd} (h : ROk d) (k : Nat) (hk : k < 5) (f : Nat) : ROk (rHas d k f) :=
  h.put k _ (h.fol k hk) (h.rol k hk) (h.log k hk) (h.byt k hk) (fun j hj => h.kno k j hk hj)
theorem ROk.serve {d : Wd} (h : ROk d) (k : Nat) (hk : k < 5) (hf : 1 ≤ (d.mem k).follows) : ROk (rServe d k) :=
  h.put k _ (h.fol k hk) (fun _ => hf) (h.log k hk) (h.byt k hk) (fun j hj => by have := h.log k hk; exact ⟨by show (0 : Int) ≤ ((d.mem k).log.length : Int); omega, by show ((d.mem k).log.length : Int) ≤ 60; omega⟩)
section
variable {w : World} {S : Nat → Prop} {b : Nat} {d : Wd} {ev uv : Value}
/-- Only what is seen of the members counts. -/
theorem RRep.cong (h : RRep w S b d ev uv) (d' : Wd) (he : d'.eras = d.eras) (hw : d'.way = d.way) (ha : d'.active = d.active)
    (hm : ∀ k, k < 5 → (d'.mem k).up = (d.mem k).up ∧ (d'.mem k).follows = (d.mem k).follows ∧ (d'.mem k).given = (d.mem k).given ∧ (d'.mem k).role = (d.mem k).role ∧ (d'.mem k).log = (d.mem k).log ∧
      (∀ j, j < 5 → (d'.mem k).knows j = (d.mem k).knows j) ∧ (∀ j, j < 5 → (d'.mem k).has j = (d.mem k).has j)) : RRep w S b d' ev uv := by
  obtain ⟨cs, hb, hc⟩ := h.blk
  refine { blk := ⟨cs, hb, ?_⟩, inb := h.inb, eras := by rw [he]; exact h.eras, eraS := h.eraS, way := by rw [hw]; exact h.way, wayS := h.wayS }
  exact { size := hc.size, up := fun k hk => by rw [(hm k hk).1]; exact hc.up k hk, fol := fun k hk => by rw [(hm k hk).2.1]; exact hc.fol k hk
          giv := fun k hk => by rw [(hm k hk).2.2.1]; exact hc.giv k hk, rol := fun k hk => by rw [(hm k hk).2.2.2.1]; exact hc.rol k hk
          log := fun k hk => by rw [(hm k hk).2.2.2.2.1]; exact hc.log k hk, kno := fun k j hk hj => by rw [(hm k hk).2.2.2.2.2.1 j hj]; exact hc.kno k j hk hj
          has := fun k j hk hj => by rw [(hm k hk).2.2.2.2.2.2 j hj]; exact hc.has k j hk hj, eras := hc.eras, act := by rw [ha]; exact hc.act, way := hc.way }
theorem RRep.setRole (h : RRep w S b d ev uv) (k : Nat) (hk : k < 5) (r : Int) : RRep (w.setCell ⟨b, k * 15 + 3, none⟩ (.int .i64 r)) S b (rRole d k r) ev uv ∧ Fr S w (w.setCell ⟨b, k * 15 + 3, none⟩ (.int .i64 r)) :=
  h.setCell (k * 15 + 3) (.int .i64 r) (rRole d k r) rfl rfl (fun cs hcs => hcs.setRol k hk r)
theorem RRep.setHas1 (h : RRep w S b d ev uv) (k : Nat) (hk : k < 5) (q : Nat) (hq : q < 5) (x : Bool) :
    RRep (w.setCell ⟨b, k * 15 + 10 + q, none⟩ (.bool x)) S b (d.put k { d.mem k with has := upd (d.mem k).has q x }) ev uv ∧ Fr S w (w.setCell ⟨b, k * 15 + 10 + q, none⟩ (.bool x)) :=
  h.setCell (k * 15 + 10 + q) (.bool x) _ rfl rfl (fun cs hcs => hcs.setHas k hk q hq x)
theorem RRep.setKnows1 (h : RRep w S b d ev uv) (k : Nat) (hk : k < 5) (q : Nat) (hq : q < 5) (x : Int) :
    RRep (w.setCell ⟨b, k * 15 + 5 + q, none⟩ (.int .i64 x)) S b (d.put k { d.mem k with knows := upd (d.mem k).knows q x }) ev uv ∧ Fr S w (w.setCell ⟨b, k * 15 + 5 + q, none⟩ (.int .i64 x)) :=
  h.setCell (k * 15 + 5 + q) (.int .i64 x) _ rfl rfl (fun cs hcs => hcs.setKno k hk q hq x)
/-- All five marks are struck. -/
theorem RRep.clearHas (h : RRep w S b d ev uv) (k : Nat) (hk : k < 5) :
    RRep (((((w.setCell ⟨b, k * 15 + 10, none⟩ (.bool false)).setCell ⟨b, k * 15 + 11, none⟩ (.bool false)).setCell ⟨b, k * 15 + 12, none⟩ (.bool false)).setCell ⟨b, k * 15 + 13, none⟩ (.bool false)).setCell ⟨b, k * 15 + 14, none⟩ (.bool false)) S b
      (d.put k { d.mem k with has := fun _ => false }) ev uv ∧ Fr S w (((((w.setCell ⟨b, k * 15 + 10, none⟩ (.bool false)).setCell ⟨b, k * 15 + 11, none⟩ (.bool false)).setCell ⟨b, k * 15 + 12, none⟩ (.bool false)).setCell ⟨b, k * 15 + 13, none⟩ (.bool false)).setCell ⟨b, k * 15 + 14, none⟩ (.bool false)) := by
  have q0 := h.setHas1 k hk 0 (by omega) false
  have q1 := q0.1.setHas1 k hk 1 (by omega) false
  have q2 := q1.1.setHas1 k hk 2 (by omega) false
  have q3 := q2.1.setHas1 k hk 3 (by omega) false
  have q4 := q3.1.setHas1 k hk 4 (by omega) false
  refine ⟨?_, (((q0.2.then q1.2).then q2.2).then q3.2).then q4.2⟩
  refine q4.1.cong _ rfl rfl rfl (fun i hi => ?_)
  by_cases e : i = k
  · subst e
    refine ⟨by simp [put_mem], by simp [put_mem], by simp [put_mem], by simp [put_mem], by simp [put_mem], fun _ _ => by simp [put_mem], fun j hj => ?_⟩
    match j, hj with
    | 0, _ => simp [put_mem, upd]
    | 1, _ => simp [put_mem, upd]
    | 2, _ => simp [put_mem, upd]
    | 3, _ => simp [put_mem, upd]
    | 4, _ => simp [put_mem, upd]
  · simp [put_mem, e]

set_option maxHeartbeats 6400000 in
set_option maxRecDepth 100000 in
theorem rleads_log (h : RRep w S b d ev uv) (hok : ROk d) (k : Nat) (hk : k < 5) (m : Msg) (hm : MsgOk d.eras.length m) (hk3 : m.kind = 3) (hr1 : (d.mem k).role = 1) :
    Calls Try.prog 113 #[.pointer (some ⟨b, 0, none⟩), .int .i64 k, letVal m] w fun e w' =>
      e = .returned (.tuple #[]) ∧ (∃ uv', RRep w' (Ext S w) b (rLeads d k m) ev uv') ∧ Fr S w w' := by
  obtain ⟨m0, m1, m2, m3, m4, m5, m6, m7, m8, m9, m10, m11, m12, m13, m14⟩ := h.member k hk
  have hb := h.lt
  have hfo := hok.rol k hk (by omega)
  have HF : Hid (rLeads d k m = rHands (rTell d k m) k) := by show rLeads d k m = _; simp [rLeads, hk3, hr1]
  have H : Hid (RRep w S b d ev uv) := h
  have HOt : Hid (ROk (rTell d k m)) := hok.tell k hk m hm.len hm.recs hfo
  have HFt : Hid (1 ≤ ((rTell d k m).mem k).follows) := by show 1 ≤ ((rTell d k m).mem k).follows; rw [rTell, put_at]; exact hfo
  have b3 : (m.kind == 3) = true := by simp [hk3]
  have br : ((d.mem k).role == 1) = true := by simp [hr1]
  unfold letVal
  clear h hok hm hk3 hr1 hfo
  go_enter Try.func113, Try.ntmps113
  go_wp2_with fail
  refine (rgiven_any ((H.out.alloc _).alloc _) k hk m.epoch m.recs).mono ?_
  rintro r w2 ⟨rfl, hR2, hF2⟩
  obtain ⟨n0, n1, n2, n3, n4, n5, n6, n7, n8, n9, n10, n11, n12, n13, n14⟩ := hR2.member k hk
  have z3 := hR2.free (k * 15 + 3)
  have z10 := hR2.free (k * 15 + 10)
  have z11 := hR2.free (k * 15 + 11)
  have z12 := hR2.free (k * 15 + 12)
  have z13 := hR2.free (k * 15 + 13)
  have z14 := hR2.free (k * 15 + 14)
  have HF2 : Hid (Fr S w w2) := ((Fr.alloc _ _ _).then (Fr.alloc _ _ _)).then hF2
  have q1 := hR2.setRole k hk 2
  have q2 := q1.1.clearHas k hk
  have HRt : Hid (RRep ((((((w2.setCell ⟨b, k * 15 + 3, none⟩ (.int .i64 2)).setCell ⟨b, k * 15 + 10, none⟩ (.bool false)).setCell ⟨b, k * 15 + 11, none⟩ (.bool false)).setCell ⟨b, k * 15 + 12, none⟩ (.bool false)).setCell ⟨b, k * 15 + 13, none⟩ (.bool false)).setCell ⟨b, k * 15 + 14, none⟩ (.bool false)) S b (rTell d k m) ev uv) := by
    refine q2.1.cong _ rfl rfl rfl (fun i hi => ?_)
    simp only [rTell, rRole, rGiven, put_mem]
    by_cases e : i = k
    · subst e; simp
    · simp [e]
  have HFt2 : Hid (Fr S w ((((((w2.setCell ⟨b, k * 15 + 3, none⟩ (.int .i64 2)).setCell ⟨b, k * 15 + 10, none⟩ (.bool false)).setCell ⟨b, k * 15 + 11, none⟩ (.bool false)).setCell ⟨b, k * 15 + 12, none⟩ (.bool false)).setCell ⟨b, k * 15 + 13, none⟩ (.bool false)).setCell ⟨b, k * 15 + 14, none⟩ (.bool false))) := HF2.out.then (q1.2.then q2.2)
  clear m0 m1 m2 m3 m4 m5 m6 m7 m8 m9 m10 m11 m12 m13 m14 n0 n1 n2 n4 n5 n6 n7 n8 n9 hR2 hF2 q1 q2
  go_wp2_with fail
  refine (rhands_any HRt.out HOt.out k hk HFt.out).mono ?_
  rintro e w3 ⟨rfl, ⟨uv3, hR3⟩, hF3⟩
  have HR3 : Hid _ := hR3
  have HF3 : Hid _ := hF3
  clear hR3 hF3
  go_wp2
  exact bodyPost_end (results_none rfl _ _ _) rfl ⟨rfl, ⟨uv3, by rw [HF.out]; exact HR3.out.mono fun i _ e => orR e fun e => by have := HF2.out.size; simp [World.setCell] at e; omega⟩, HFt2.out.then HF3.out⟩

set_option maxHeartbeats 6400000 in
set_option maxRecDepth 100000 in
theorem rleads_have (h : RRep w S b d ev uv) (hok : ROk d) (k : Nat) (hk : k < 5) (m : Msg) (hm : MsgOk d.eras.length m) (hk5 : m.kind = 5) (hr2 : (d.mem k).role = 2) :
    Calls Try.prog 113 #[.pointer (some ⟨b, 0, none⟩), .int .i64 k, letVal m] w fun e w' =>
      e = .returned (.tuple #[]) ∧ (∃ uv', RRep w' (Ext S w) b (rLeads d k m) ev uv') ∧ Fr S w w' := by
  obtain ⟨m0, m1, m2, m3, m4, m5, m6, m7, m8, m9, m10, m11, m12, m13, m14⟩ := h.member k hk
  have hb := h.lt
  have hfo := hok.rol k hk (by omega)
  obtain ⟨f, hf⟩ := Int.eq_ofNat_of_zero_le (hm.lead (Or.inr hk5))
  have hf5 : f < 5 := by have := hm.frm.2; omega
  have cH := h.cHas k f hk hf5
  have zH := h.free (k * 15 + 10 + f)
  have HF : Hid (rLeads d k m = if rOthers (rHas d k f) k then rReady (rHas d k f) k m.epoch else rHas d k f) := by
    show rLeads d k m = _
    rw [rLeads, if_neg (by omega), if_pos ⟨hk5, hr2⟩, hf]; rfl
  have H : Hid (RRep w S b d ev uv) := h
  have HO2 : Hid (ROk (rHas d k f)) := hok.hasN k hk f
  have HF2 : Hid (1 ≤ ((rHas d k f).mem k).follows) := by show 1 ≤ ((rHas d k f).mem k).follows; rw [rHas, put_at]; exact hfo
  have b3 : (m.kind == 3) = false := by simp [hk5]
  have b5 : (m.kind == 5) = true := by simp [hk5]
  have br : ((d.mem k).role == 2) = true := by simp [hr2]
  unfold letVal
  rw [hf]
  have hf0 : (0 : Int) ≤ (f : Int) := by omega
  have hf1 : (f : Int) < 5 := by omega
  have hnb0 : ¬ b = w.heap.size := by omega
  have hnb1 : ¬ b = w.heap.size + 1 := by omega
  clear h hok hm hk5 hr2 hfo hf
  go_enter Try.func113, Try.ntmps113
  go_wp2_with fail
  have q := H.out.setHas1 k hk f hf5 true
  have HFs : Hid (Fr S w (w.setCell ⟨b, k * 15 + 10 + f, none⟩ (.bool true))) := q.2
  have HRs : Hid (RRep (w.setCell ⟨b, k * 15 + 10 + f, none⟩ (.bool true)) S b (rHas d k f) ev uv) := q.1
  clear q
  refine (rothers_any ((HRs.out.alloc _).alloc _) HO2.out k hk HF2.out).mono ?_
  rintro e w2 ⟨rfl, hBd⟩
  have l3 : w2.cell? ⟨w.heap.size, 3, none⟩ = some (.int .i64 m.epoch) := by
    have hz : (w.setCell ⟨b, k * 15 + 10 + f, none⟩ (.bool true)).heap.size = w.heap.size := by simp [World.setCell]
    have q1 := heap_alloc2_old (w.setCell ⟨b, k * 15 + 10 + f, none⟩ (.bool true)) (.cells #[.int .i64 m.kind, .int .i64 f, .int .i64 m.to, .int .i64 m.epoch, .int .i64 m.n, .string (encB m.recs)] 134) (.cells #[.bool (d.mem k).up, .int .i64 (d.mem k).follows, .int .i64 (d.mem k).given, .int .i64 (d.mem k).role, .string (encB (d.mem k).log), .int .i64 ((d.mem k).knows 0), .int .i64 ((d.mem k).knows 1), .int .i64 ((d.mem k).knows 2), .int .i64 ((d.mem k).knows 3), .int .i64 ((d.mem k).knows 4), .bool ((d.mem k).has 0), .bool ((d.mem k).has 1), .bool ((d.mem k).has 2), .bool ((d.mem k).has 3), .bool ((d.mem k).has 4)] 111)
    rw [hz] at q1
    have q2 := (hBd.block w.heap.size (by simp [World.setCell]; omega)).trans q1
    exact (cell_of_row _ _ _ _ _ _ q2).trans rfl
  have HR2 : Hid (RRep w2 S b (rHas d k f) ev uv) := ((HRs.out.alloc _).alloc _).below hBd
  have HB2 : Hid (Fr S w w2) := HFs.out.then (((Fr.alloc _ _ _).then (Fr.alloc _ _ _)).then (Fr.below hBd))
  clear hBd m0 m1 m2 m3 m4 m5 m6 m7 m8 m9 m10 m11 m12 m13 m14 cH zH
  cases hall : rOthers (rHas d k f) k
  · go_wp2
    exact bodyPost_end (results_none rfl _ _ _) rfl ⟨rfl, ⟨uv, by rw [HF.out, hall]; exact HR2.out.mono fun _ _ e => Or.inl e⟩, HB2.out⟩
  · go_wp2_with fail
    refine (rsends_any HR2.out HO2.out.way { kind := 6, frm := k, to := -1, epoch := m.epoch, n := 0, recs := [] } _ rfl).mono ?_
    rintro e w3 ⟨rfl, ⟨uv3, hR3⟩, hF3⟩
    have HR3 : Hid _ := hR3
    have HF3 : Hid _ := hF3
    clear hR3 hF3
    go_wp2
    exact bodyPost_end (results_none rfl _ _ _) rfl ⟨rfl, ⟨uv3, by rw [HF.out, hall]; exact HR3.out.mono fun _ _ e => orR e fun e => Nat.le_trans HB2.out.size e⟩, HB2.out.then HF3.out⟩
end
end Go.Proofs.Ythpjcmilfipbaaa

namespace Go.Proofs.Ythpjcmilfipbaaa
set_option linter.unusedVariables false
set_option linter.unusedSimpArgs false
open Go.RowKit
/-- Serve's loop behind j rounds. -/
def serveTo (d : Wd) (k j : Nat) : Wd := d.put k { d.mem k with role := 3, knows := fun i => if i < j then ((d.mem k).log.length : Int) else (d.mem k).knows i }
section
variable {w : World} {S : Nat → Prop} {b : Nat} {d : Wd} {ev uv : Value}

set_option maxHeartbeats 6400000 in
set_option maxRecDepth 100000 in
theorem rleads_serve (h : RRep w S b d ev uv) (hok : ROk d) (k : Nat) (hk : k < 5) (m : Msg) (hk7 : m.kind = 7) (hr2 : (d.mem k).role = 2) :
    Calls Try.prog 113 #[.pointer (some ⟨b, 0, none⟩), .int .i64 k, letVal m] w fun e w' =>
      e = .returned (.tuple #[]) ∧ (∃ uv', RRep w' (Ext S w) b (rLeads d k m) ev uv') ∧ Fr S w w' := by
  obtain ⟨m0, m1, m2, m3, m4, m5, m6, m7, m8, m9, m10, m11, m12, m13, m14⟩ := h.member k hk
  have hb := h.lt
  have z3 := h.free (k * 15 + 3)
  have hlen := hok.log k hk
  have HF : Hid (rLeads d k m = rServe d k) := by
    show rLeads d k m = _
    rw [rLeads, if_neg (by omega), if_neg (by omega), if_pos ⟨hk7, hr2⟩]
  have H : Hid (RRep w S b d ev uv) := h
  have b3 : (m.kind == 3) = false := by simp [hk7]
  have b5 : (m.kind == 5) = false := by simp [hk7]
  have b7 : (m.kind == 7) = true := by simp [hk7]
  have br : ((d.mem k).role == 2) = true := by simp [hr2]
  unfold letVal
  clear h hok hk7 hr2
  have hnb0 : ¬ b = w.heap.size := by omega
  have hnb1 : ¬ b = w.heap.size + 1 := by omega
  have hnb2 : ¬ w.heap.size + 1 = b := by omega
  go_enter Try.func113, Try.ntmps113
  go_wp2_with fail
  refine wp_genR (fun W => RRep W S b (serveTo d k 0) ev uv ∧ Fr S w W ∧ Copy W (w.heap.size + 1) (d.mem k)) ?_ ?_
  · have q := H.out.setRole k hk 3
    refine ⟨((q.1.alloc _).alloc _).cong _ rfl rfl rfl (fun i hi => ?_), q.2.then ((Fr.alloc _ _ _).then (Fr.alloc _ _ _)), ?_⟩
    · simp only [serveTo, rRole, put_mem]
      by_cases e : i = k
      · subst e; simp
      · simp [e]
    · have hz : (w.setCell ⟨b, k * 15 + 3, none⟩ (.int .i64 3)).heap.size = w.heap.size := by simp [World.setCell]
      have q2 := copy_alloc ((w.setCell ⟨b, k * 15 + 3, none⟩ (.int .i64 3)).alloc (.cells #[.int .i64 m.kind, .int .i64 m.frm, .int .i64 m.to, .int .i64 m.epoch, .int .i64 m.n, .string (encB m.recs)] 134)) (d.mem k)
      simpa [hz] using q2
  rintro W ⟨hWR, hWB, hWC⟩
  have HWR : Hid (RRep W S b (serveTo d k 0) ev uv) := hWR
  have HWB : Hid (Fr S w W) := hWB
  have HWC : Hid (Copy W (w.heap.size + 1) (d.mem k)) := hWC
  clear hWR hWB hWC m0 m1 m2 m3 m4 m5 m6 m7 m8 m9 m10 m11 m12 m13 m14 z3
  have hk0 : (0 : Int) ≤ (k : Int) := by omega
  have hk1 : (k : Int) < 5 := by omega
  go_loopw [9] (fun t wr => ∃ j : Nat, j ≤ 5 ∧ t = .int .i64 j ∧ RRep wr S b (serveTo d k j) ev uv ∧ Fr S w wr ∧ Copy wr (w.heap.size + 1) (d.mem k)) (fun t _ => 5 - (intOf t).toNat)
  case atStart => exact ⟨0, Nat.zero_le _, rfl, HWR.out, HWB.out, HWC.out⟩
  case round =>
    obtain ⟨j, hj5, rfl, hRr, hFr, hCr⟩ := hrel
    obtain ⟨_, _, _, f4⟩ := hCr.cells
    have HWr : Hid (RRep wr S b (serveTo d k j) ev uv) := hRr
    have HFr : Hid (Fr S w wr) := hFr
    have HCr : Hid (Copy wr (w.heap.size + 1) (d.mem k)) := hCr
    by_cases hj : j < 5
    · have cK := hRr.cKno k j hk hj
      have zK := hRr.free (k * 15 + 5 + j)
      have hbr := hRr.lt
      have hj0 : (0 : Int) ≤ (j : Int) := by omega
      have hj1 : (j : Int) < 5 := by omega
      clear hRr hFr hCr
      have HSet : Hid (∀ W1 : World, RRep W1 S b (serveTo d k j) ev uv → RRep (W1.setCell ⟨b, k * 15 + 5 + j, none⟩ (.int .i64 ((d.mem k).log.length : Int))) S b (serveTo d k (j + 1)) ev uv ∧ Fr S W1 (W1.setCell ⟨b, k * 15 + 5 + j, none⟩ (.int .i64 ((d.mem k).log.length : Int)))) := fun W1 h1 => by
        have q := h1.setKnows1 k hk j hj ((d.mem k).log.length : Int)
        refine ⟨q.1.cong _ rfl rfl rfl (fun i hi => ?_), q.2⟩
        by_cases e : i = k
        · subst e
          refine ⟨by simp [serveTo, put_mem], by simp [serveTo, put_mem], by simp [serveTo, put_mem], by simp [serveTo, put_mem], by simp [serveTo, put_mem], fun q hq => ?_, fun q hq => by simp [serveTo, put_mem]⟩
          simp only [serveTo, put_mem, if_true, upd]
          by_cases e2 : q = j
          · subst e2; simp
          · simp only [e2, if_false]
            by_cases e3 : q < j
            · rw [if_pos (by omega), if_pos e3]
            · rw [if_neg (by omega), if_neg e3]
        · simp [serveTo, put_mem, e]
      go_wp2_with fail
      go_region_held3 (fun w' => w'.cell? ⟨w.heap.size + 1, 4, none⟩ = some (.string (encB (d.mem k).log)))
        (first
          | (simp only [World.cell?_drew, f4]; done)
          | (go_keep; done))
        (first
          | (go_at_call 74; refine (rcount_any _ hlen _).mono ?_; rintro e w1 ⟨rfl, hw1⟩; rw [hw1]; clear hw1))
      all_goals
        have q := HSet.out _ HWr.out.drew
        have HN : Hid (RRep (wr.drew.setCell ⟨b, k * 15 + 5 + j, none⟩ (.int .i64 ((d.mem k).log.length : Int))) S b (serveTo d k (j + 1)) ev uv) := q.1
        have HNF : Hid (Fr S w (wr.drew.setCell ⟨b, k * 15 + 5 + j, none⟩ (.int .i64 ((d.mem k).log.length : Int)))) := HFr.out.then ((Fr.drew _ wr).then q.2)
        have HNC : Hid (Copy (wr.drew.setCell ⟨b, k * 15 + 5 + j, none⟩ (.int .i64 ((d.mem k).log.length : Int))) (w.heap.size + 1) (d.mem k)) := HCr.out.drewC.same (Below.heap_setCell _ _ _ _ hnb2)
        clear q
        go_wp2
        go_roundw
        case rel => exact ⟨j + 1, by omega, by go_num, HN.out, HNF.out, HNC.out⟩
        case measure => simp [intOf]; omega
    · have : j = 5 := by omega
      subst this
      clear hRr hFr hCr
      go_wp2_with fail
      refine bodyPost_end (results_none rfl _ _ _) rfl ⟨rfl, ⟨uv, ?_⟩, HFr.out⟩
      rw [HF.out]
      refine (HWr.out.cong (rServe d k) rfl rfl rfl (fun i hi => ?_)).mono fun _ _ e => Or.inl e
      by_cases e : i = k
      · subst e
        refine ⟨by simp [serveTo, rServe, put_mem], by simp [serveTo, rServe, put_mem], by simp [serveTo, rServe, put_mem], by simp [serveTo, rServe, put_mem], by simp [serveTo, rServe, put_mem], fun q hq => by simp [serveTo, rServe, put_mem, hq], fun q hq => by simp [serveTo, rServe, put_mem]⟩
      · simp [serveTo, rServe, put_mem, e]

theorem rleads_any (h : RRep w S b d ev uv) (hok : ROk d) (k : Nat) (hk : k < 5) (m : Msg) (hm : MsgOk d.eras.length m) :
    Calls Try.prog 113 #[.pointer (some ⟨b, 0, none⟩), .int .i64 k, letVal m] w fun e w' =>
      e = .returned (.tuple #[]) ∧ (∃ uv', RRep w' (Ext S w) b (rLeads d k m) ev uv') ∧ Fr S w w' := by
  by_cases h3 : m.kind = 3 ∧ (d.mem k).role = 1
  · exact rleads_log h hok k hk m hm h3.1 h3.2
  by_cases h5 : m.kind = 5 ∧ (d.mem k).role = 2
  · exact rleads_have h hok k hk m hm h5.1 h5.2
  by_cases h7 : m.kind = 7 ∧ (d.mem k).role = 2
  · exact rleads_serve h hok k hk m h7.1 h7.2
  by_cases h9 : m.kind = 9 ∧ (d.mem k).role = 3
  · exact rleads_ack h hok k hk m hm h9.1 h9.2
  · exact rleads_idle h k hk m h3 h5 h7 h9

set_option maxHeartbeats 1600000 in
theorem rmaster_any (h : RRep w S b d ev uv) (hok : ROk d) (q : Nat) (hq : q < d.eras.length) :
    Calls Try.prog 101 #[.pointer (some ⟨b, 0, none⟩), .int .i64 ((q : Int) + 1)] w fun e w' =>
      e = .returned (.tuple #[]) ∧ (∃ uv', RRep w' (Ext S w) b (rMaster d ((q : Int) + 1)) ev uv') ∧ Fr S w w' := by
  have c75 := h.cEras
  have c76 := h.cAct
  have z76 := h.free 76
  have hb := h.lt
  have h40 := hok.e40
  have hown := h.eras
  obtain ⟨ao, cap, hev, _, _, hpos⟩ := ownsRow_shape h.eras
  obtain ⟨g, rfl⟩ := hpos (by omega)
  rw [hev] at c75 hown
  obtain ⟨_, cl, _⟩ := era_cells hown q d.eras[q] (by simp [hq])
  have hgb : ¬ b = g := by
    intro e
    obtain ⟨cs, hbl, _⟩ := h.blk
    obtain ⟨cu, hcu⟩ := ownsRow_block hown (g := g) rfl
    exact ne_of_type hbl hcu (by decide) e
  have H : Hid (RRep w S b d ev uv) := h
  have hway := hok.way
  clear h hok hown hev hpos
  by_cases he : q + 1 = d.eras.length
  · have be : ((q : Int) + 1 == (d.eras.length : Int)) = true := by simp; omega
    have HF : Hid (rMaster d ((q : Int) + 1) = rSends { d with active := (q : Int) + 1 } { kind := 7, frm := -1, to := d.eras[q].leader, epoch := (q : Int) + 1, n := 0, recs := [] }) := by
      show rMaster d ((q : Int) + 1) = _
      have e1 : ((q : Int) + 1 - 1).toNat = q := by omega
      rw [rMaster, if_pos (by omega), Wd.era, e1]
      simp [hq]
    generalize d.eras[q].leader = ld at cl HF
    clear he
    go_enter Try.func101, Try.ntmps101
    go_wp2_with fail
    have q1 := H.out.setCell 76 (.int .i64 ((q : Int) + 1)) { d with active := (q : Int) + 1 } rfl rfl (fun cs hcs => hcs.setAct _)
    refine (rsends_any q1.1 hway { kind := 7, frm := -1, to := ld, epoch := (q : Int) + 1, n := 0, recs := [] } _ rfl).mono ?_
    rintro e w3 ⟨rfl, ⟨uv3, hR3⟩, hF3⟩
    have HR3 : Hid _ := hR3
    have HF3 : Hid (Fr S w w3) := q1.2.then hF3
    clear hR3 hF3 q1
    go_wp2
    exact bodyPost_end (results_none rfl _ _ _) rfl ⟨rfl, ⟨uv3, by rw [HF.out]; exact HR3.out.mono fun _ _ e => orR e fun e => by simp [World.setCell] at e; exact e⟩, HF3.out⟩
  · have be : ((q : Int) + 1 == (d.eras.length : Int)) = false := by simp; omega
    have HF : Hid (rMaster d ((q : Int) + 1) = d) := by show rMaster d ((q : Int) + 1) = _; rw [rMaster, if_neg (by omega)]
    clear he
    go_enter Try.func101, Try.ntmps101
    go_wp2
    exact bodyPost_end (results_none rfl _ _ _) rfl ⟨rfl, ⟨uv, by rw [HF.out]; exact H.out.mono fun _ _ e => Or.inl e⟩, Fr.refl _ _⟩
end
end Go.Proofs.Ythpjcmilfipbaaa
