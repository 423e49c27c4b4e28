/- My own text: several texts in one. -/
import Derived.Test.YthpjcmilfipbaaaR2
namespace Go.Proofs.Ythpjcmilfipbaaa
set_option linter.unusedVariables false
set_option linter.unusedSimpArgs false
open Go.RowKit
theorem rFollows_same (d : Wd) (k : Nat) (e r : Int) : (rFollows d k e r).eras = d.eras ∧ (rFollows d k e r).active = d.active ∧ (rFollows d k e r).way = d.way := by
  unfold rFollows; split <;> exact ⟨rfl, rfl, rfl⟩
theorem ROk.follows {d : Wd} (h : ROk d) (k : Nat) (hk : k < 5) (e r : Int) (h0 : 1 ≤ e) (h1 : e ≤ d.eras.length) : ROk (rFollows d k e r) := by
  unfold rFollows
  split
  · exact h.put k _ ⟨by show 0 ≤ e; omega, h1⟩ (fun _ => h0) (h.log k hk) (h.byt k hk) (fun j hj => h.kno k j hk hj)
  · exact h
theorem rFollows_ge (d : Wd) (k : Nat) (e r : Int) : e ≤ ((rFollows d k e r).mem k).follows := by
  unfold rFollows
  split
  · rw [put_at]; exact Int.le_refl _
  · omega
theorem ROk.role {d : Wd} (h : ROk d) (k : Nat) (hk : k < 5) (r : Int) (hf : 1 ≤ (d.mem k).follows) : ROk (rRole d k r) :=
  h.put k _ (h.fol k hk) (fun _ => hf) (h.log k hk) (h.byt k hk) (fun j hj => h.kno k j hk hj)
theorem rReadsTo_same (d : Wd) (k : Nat) (e b : Int) : ∀ j, (rReadsTo d k e b j).mem = d.mem ∧ (rReadsTo d k e b j).eras = d.eras ∧ (rReadsTo d k e b j).active = d.active
  | 0 => ⟨rfl, rfl, rfl⟩
  | j + 1 => by
    have ih := rReadsTo_same d k e b j
    unfold rReadsTo
    split
    · rw [(rSends_same _ _).1, (rSends_same _ _).2.1, (rSends_same _ _).2.2]; exact ih
    · exact ih
theorem ROk.readsTo {d : Wd} (h : ROk d) (k : Nat) (hk : k < 5) (e b : Int) (h0 : 1 ≤ e) (h1 : e ≤ d.eras.length) : ∀ j, j ≤ 5 → ROk (rReadsTo d k e b j)
  | 0, _ => h
  | j + 1, hj => by
    have ih := h.readsTo k hk e b h0 h1 j (by omega)
    have hs := (rReadsTo_same d k e b j).2.1
    unfold rReadsTo
    split
    · exact ih.sends ⟨⟨by show (-1 : Int) ≤ (j : Int); omega, by show (j : Int) < 5; omega⟩, ⟨by show (-1 : Int) ≤ (k : Int); omega, by show (k : Int) < 5; omega⟩, fun _ => by show (0 : Int) ≤ (k : Int); omega, ⟨h0, by rw [hs]; exact h1⟩, fun e => by simp at e, ⟨by show (0 : Int) ≤ 0; omega, by show (0 : Int) ≤ 60; omega⟩, Nat.zero_le _, fun e => by simp at e, fun r hr => by simp at hr⟩
    · exact ih
theorem ROk.starts {d : Wd} (h : ROk d) (k : Nat) (hk : k < 5) (e : Int) (h0 : 1 ≤ e) (h1 : e ≤ d.eras.length) : ROk (rStarts d k e) := by
  have a1 := h.follows k hk e 1 h0 h1
  have f1 : 1 ≤ ((rFollows d k e 1).mem k).follows := by have := rFollows_ge d k e 1; omega
  have es := (rFollows_same d k e 1).1
  unfold rStarts
  generalize rFollows d k e 1 = d1 at *
  have a2 : ROk (rWake d1 k e) ∧ 1 ≤ ((rWake d1 k e).mem k).follows ∧ (rWake d1 k e).eras = d1.eras := by
    unfold rWake
    split
    · refine ⟨a1.role k hk 1 f1, ?_, rfl⟩
      unfold rRole; rw [put_at]; exact f1
    · exact ⟨a1, f1, rfl⟩
  obtain ⟨b1, b2, b3⟩ := a2
  generalize rWake d1 k e = d2 at *
  unfold rStart2
  split
  · exact b1.readsTo k hk e _ h0 (by rw [b3, es]; exact h1) 5 (Nat.le_refl _)
  · split
    · exact b1.hands k hk b2
    · exact b1
section
variable {w : World} {S : Nat → Prop} {b : Nat} {d : Wd} {ev uv : Value}
/-- Start's last part: what a node does by its role. -/
theorem rStarts_cases (d : Wd) (k : Nat) (e : Int) : rStarts d k e = rStart2 (rWake (rFollows d k e 1) k e) k e := rfl

set_option maxHeartbeats 3200000 in
set_option maxRecDepth 100000 in
theorem rstarts_any (h : RRep w S b d ev uv) (hok : ROk d) (k : Nat) (hk : k < 5) (q : Nat) (hq1 : 1 ≤ q) (hq : q < d.eras.length) :
    Calls Try.prog 110 #[.pointer (some ⟨b, 0, none⟩), .int .i64 k, .int .i64 ((q : Int) + 1)] w fun e w' =>
      e = .returned (.tuple #[]) ∧ (∃ uv', RRep w' (Ext S w) b (rStarts d k ((q : Int) + 1)) ev uv') ∧ Fr S w w' := by
  have H : Hid (RRep w S b d ev uv) := h
  have HO : Hid (ROk d) := hok
  have h40 := hok.e40
  clear h hok
  go_enter Try.func110, Try.ntmps110
  go_wp2_with fail
  refine (rfollows_any H.out k hk ((q : Int) + 1) 1).mono ?_
  rintro r w1 ⟨rfl, hR1, hF1⟩
  have HO1 : Hid (ROk (rFollows d k ((q : Int) + 1) 1)) := HO.out.follows k hk _ 1 (by omega) (by omega)
  have HFo1 : Hid (1 ≤ ((rFollows d k ((q : Int) + 1) 1).mem k).follows) := by show 1 ≤ ((rFollows d k ((q : Int) + 1) 1).mem k).follows; have := rFollows_ge d k ((q : Int) + 1) 1; omega
  have HE1 : Hid ((rFollows d k ((q : Int) + 1) 1).eras = d.eras) := (rFollows_same d k _ 1).1
  have HS0 : Hid (rStarts d k ((q : Int) + 1) = rStart2 (rWake (rFollows d k ((q : Int) + 1) 1) k ((q : Int) + 1)) k ((q : Int) + 1)) := rfl
  generalize rFollows d k ((q : Int) + 1) 1 = d1 at *
  obtain ⟨m0, m1, m2, m3, m4, m5, m6, m7, m8, m9, m10, m11, m12, m13, m14⟩ := hR1.member k hk
  have hb := hR1.lt
  have z3 := hR1.free (k * 15 + 3)
  have HR1 : Hid (RRep w1 S b d1 ev uv) := hR1
  have HF1 : Hid (Fr S w w1) := hF1
  clear hR1 hF1
  have hnb : ¬ b = w1.heap.size := by omega
  -- the epoch before
  have HEq := HE1.out
  obtain ⟨ao, cap, hev, _, _, hpos⟩ := ownsRow_shape HR1.out.eras
  obtain ⟨g, rfl⟩ := hpos (by rw [HEq]; omega)
  have c75 := HR1.out.cEras
  rw [hev, HEq] at c75
  have hown := HR1.out.eras
  rw [hev, HEq] at hown
  have hqe : d.eras[q]? = some d.eras[q] := by simp [hq]
  obtain ⟨_, _, cb⟩ := era_cells hown q d.eras[q] hqe
  have hgl := ownsRow_lt hown (g := g) rfl
  have hgb : ¬ b = g := by
    intro e
    obtain ⟨cs, hbl, _⟩ := HR1.out.blk
    obtain ⟨cu, hcu⟩ := ownsRow_block hown (g := g) rfl
    exact ne_of_type hbl hcu (by decide) e
  have heb := HO.out.era q d.eras[q] hqe
  obtain ⟨p, hp⟩ : ∃ p : Nat, d.eras[q].before = (p : Int) + 1 := ⟨(d.eras[q].before - 1).toNat, by have := heb.2.2.2.2.2.2 hq1; omega⟩
  have hpl : p < d.eras.length := by have := heb.2.2.2.2.2.1; omega
  rw [hp] at cb
  have HBe : Hid (∀ d' : Wd, d'.eras = d.eras → (d'.era ((q : Int) + 1)).before = (p : Int) + 1) := fun d' he => by
    have e1 : ((q : Int) + 1 - 1).toNat = q := by omega
    rw [Wd.era, he, e1, ← hp]
    simp [hq]
  clear hev hpos hown hqe heb hp HEq
  have hc : ((d1.mem k).role = 0 ∧ (d1.mem k).given < (q : Int) + 1) ∨ ¬ ((d1.mem k).role = 0 ∧ (d1.mem k).given < (q : Int) + 1) := by omega
  rcases hc with ⟨hc1, hc2⟩ | hc
  · have HW : Hid (rWake d1 k ((q : Int) + 1) = rRole d1 k 1) := by show rWake d1 k ((q : Int) + 1) = _; simp [rWake, hc1, hc2]
    have HO2 : Hid (ROk (rRole d1 k 1)) := HO1.out.role k hk 1 HFo1.out
    have HE2 : Hid ((rRole d1 k 1).eras = d.eras) := HE1.out
    have HRo : Hid (((rRole d1 k 1).mem k).role = 1) := by show ((rRole d1 k 1).mem k).role = 1; rw [rRole, put_at]
    have HBf : Hid (((rRole d1 k 1).era ((q : Int) + 1)).before = (p : Int) + 1) := HBe.out _ HE1.out
    have b0 : ((d1.mem k).role == 0) = true := by simp [hc1]
    clear hc1
    go_wp2_with fail
    refine wp_genR (fun W => RRep W S b (rRole d1 k 1) ev uv ∧ Fr S w W) ⟨((HR1.out.setCell (k * 15 + 3) (.int .i64 1) (rRole d1 k 1) rfl rfl (fun cs hcs => hcs.setRol k hk 1)).1.alloc _), HF1.out.then ((HR1.out.setCell (k * 15 + 3) (.int .i64 1) (rRole d1 k 1) rfl rfl (fun cs hcs => hcs.setRol k hk 1)).2.then (Fr.alloc _ _ _))⟩ ?_
    rintro W ⟨hWR, hWB⟩
    have HWR : Hid (RRep W S b (rRole d1 k 1) ev uv) := hWR
    have HWB : Hid (Fr S w W) := hWB
    clear hWR hWB
    clear m0 m1 m2 m3 m4 m5 m6 m7 m8 m9 m10 m11 m12 m13 m14 z3 c75 cb
    have HFin : Hid (rStarts d k ((q : Int) + 1) = rReadsTo (rRole d1 k 1) k ((q : Int) + 1) ((p : Int) + 1) 5) := by
      show rStarts d k ((q : Int) + 1) = _
      rw [HS0.out, HW.out, rStart2, if_pos HRo.out, HBf.out]
    go_loopw [8] (fun t wr => ∃ j : Nat, j ≤ 5 ∧ t = .int .i64 j ∧ (∃ uv', RRep wr (Ext S W) b (rReadsTo (rRole d1 k 1) k ((q : Int) + 1) ((p : Int) + 1) j) ev uv') ∧ Fr S W wr) (fun t _ => 5 - (intOf t).toNat)
    case atStart => exact ⟨0, Nat.zero_le _, rfl, ⟨_, HWR.out.mono fun _ _ e => Or.inl e⟩, Fr.refl _ _⟩
    case round =>
      obtain ⟨j, hj5, rfl, ⟨uv1, hRr⟩, hFr⟩ := hrel
      have HWr : Hid (RRep wr (Ext S W) b (rReadsTo (rRole d1 k 1) k ((q : Int) + 1) ((p : Int) + 1) j) ev uv1) := hRr
      have HFr : Hid (Fr S W wr) := hFr
      have HEr : Hid ((rReadsTo (rRole d1 k 1) k ((q : Int) + 1) ((p : Int) + 1) j).eras = d.eras) := ((rReadsTo_same _ _ _ _ _).2.1).trans HE2.out
      clear hRr hFr
      by_cases hj : j < 5
      · have HOr : Hid (ROk (rReadsTo (rRole d1 k 1) k ((q : Int) + 1) ((p : Int) + 1) j)) := HO2.out.readsTo k hk _ _ (by omega) (by rw [HE2.out]; omega) j (by omega)
        cases hin : rIn (rReadsTo (rRole d1 k 1) k ((q : Int) + 1) ((p : Int) + 1) j) ((p : Int) + 1) j
        · have HS' : Hid (rReadsTo (rRole d1 k 1) k ((q : Int) + 1) ((p : Int) + 1) (j + 1) = rReadsTo (rRole d1 k 1) k ((q : Int) + 1) ((p : Int) + 1) j) := by
            show rReadsTo (rRole d1 k 1) k ((q : Int) + 1) ((p : Int) + 1) (j + 1) = _
            rw [rReadsTo, if_neg (by rw [hin]; simp)]
          go_wp2_with (first | (go_at_call 76; refine (rin_any HWr.out HOr.out p (by rw [HEr.out]; exact hpl) j hj).mono ?_; rintro e w2 ⟨rfl, hw2⟩; rw [hw2]; clear hw2))
          go_roundw
          case rel => exact ⟨j + 1, by omega, by go_num, ⟨uv1, by rw [HS'.out]; exact HWr.out⟩, HFr.out⟩
          case measure => simp [intOf]; omega
        · have HS' : Hid (rReadsTo (rRole d1 k 1) k ((q : Int) + 1) ((p : Int) + 1) (j + 1) = rSends (rReadsTo (rRole d1 k 1) k ((q : Int) + 1) ((p : Int) + 1) j) { kind := 2, frm := k, to := j, epoch := (q : Int) + 1, n := 0, recs := [] }) := by
            show rReadsTo (rRole d1 k 1) k ((q : Int) + 1) ((p : Int) + 1) (j + 1) = _
            rw [rReadsTo, if_pos hin]
          go_wp2_with (first | (go_at_call 76; refine (rin_any HWr.out HOr.out p (by rw [HEr.out]; exact hpl) j hj).mono ?_; rintro e w2 ⟨rfl, hw2⟩; rw [hw2]; clear hw2))
          refine (rsends_any HWr.out HOr.out.way { kind := 2, frm := k, to := j, epoch := (q : Int) + 1, n := 0, recs := [] } _ rfl).mono ?_
          rintro e w3 ⟨rfl, ⟨uv2, hR2⟩, hF2⟩
          have HR2 : Hid (RRep w3 (Ext S W) b (rSends (rReadsTo (rRole d1 k 1) k ((q : Int) + 1) ((p : Int) + 1) j) { kind := 2, frm := k, to := j, epoch := (q : Int) + 1, n := 0, recs := [] }) ev uv2) := hR2.mono fun i _ e => Ext.sub HFr.out.size i e
          have HF2 : Hid (Fr S W w3) := HFr.out.trans hF2
          clear hR2 hF2
          go_wp2
          go_roundw
          case rel => exact ⟨j + 1, by omega, by go_num, ⟨uv2, by rw [HS'.out]; exact HR2.out⟩, HF2.out⟩
          case measure => simp [intOf]; omega
      · have : j = 5 := by omega
        subst this
        go_wp2_with fail
        exact bodyPost_end (results_none rfl _ _ _) rfl ⟨rfl, ⟨_, by rw [HFin.out]; exact HWr.out.mono fun i _ e => orR e fun e => Nat.le_trans HWB.out.size e⟩, HWB.out.then HFr.out⟩
  · have HW : Hid (rWake d1 k ((q : Int) + 1) = d1) := by show rWake d1 k ((q : Int) + 1) = _; simp [rWake, hc]
    have HO2 : Hid (ROk d1) := HO1.out
    have HE2 : Hid (d1.eras = d.eras) := HE1.out
    have HBf : Hid ((d1.era ((q : Int) + 1)).before = (p : Int) + 1) := HBe.out _ HE1.out
    by_cases hr1 : (d1.mem k).role = 1
    · have HRo : Hid ((d1.mem k).role = 1) := hr1
      rw [hr1] at m3
      clear hc hr1
      go_wp2_with fail
      refine wp_genR (fun W => RRep W S b d1 ev uv ∧ Fr S w W) ⟨HR1.out.alloc _, HF1.out.then (Fr.alloc _ _ _)⟩ ?_
      rintro W ⟨hWR, hWB⟩
      have HWR : Hid (RRep W S b d1 ev uv) := hWR
      have HWB : Hid (Fr S w W) := hWB
      clear hWR hWB
      clear m0 m1 m2 m3 m4 m5 m6 m7 m8 m9 m10 m11 m12 m13 m14 z3 c75 cb
      have HFin : Hid (rStarts d k ((q : Int) + 1) = rReadsTo d1 k ((q : Int) + 1) ((p : Int) + 1) 5) := by
        show rStarts d k ((q : Int) + 1) = _
        rw [HS0.out, HW.out, rStart2, if_pos HRo.out, HBf.out]
      go_loopw [8] (fun t wr => ∃ j : Nat, j ≤ 5 ∧ t = .int .i64 j ∧ (∃ uv', RRep wr (Ext S W) b (rReadsTo d1 k ((q : Int) + 1) ((p : Int) + 1) j) ev uv') ∧ Fr S W wr) (fun t _ => 5 - (intOf t).toNat)
      case atStart => exact ⟨0, Nat.zero_le _, rfl, ⟨_, HWR.out.mono fun _ _ e => Or.inl e⟩, Fr.refl _ _⟩
      case round =>
        obtain ⟨j, hj5, rfl, ⟨uv1, hRr⟩, hFr⟩ := hrel
        have HWr : Hid (RRep wr (Ext S W) b (rReadsTo d1 k ((q : Int) + 1) ((p : Int) + 1) j) ev uv1) := hRr
        have HFr : Hid (Fr S W wr) := hFr
        have HEr : Hid ((rReadsTo d1 k ((q : Int) + 1) ((p : Int) + 1) j).eras = d.eras) := ((rReadsTo_same _ _ _ _ _).2.1).trans HE2.out
        clear hRr hFr
        by_cases hj : j < 5
        · have HOr : Hid (ROk (rReadsTo d1 k ((q : Int) + 1) ((p : Int) + 1) j)) := HO2.out.readsTo k hk _ _ (by omega) (by rw [HE2.out]; omega) j (by omega)
          cases hin : rIn (rReadsTo d1 k ((q : Int) + 1) ((p : Int) + 1) j) ((p : Int) + 1) j
          · have HS' : Hid (rReadsTo d1 k ((q : Int) + 1) ((p : Int) + 1) (j + 1) = rReadsTo d1 k ((q : Int) + 1) ((p : Int) + 1) j) := by
              show rReadsTo d1 k ((q : Int) + 1) ((p : Int) + 1) (j + 1) = _
              rw [rReadsTo, if_neg (by rw [hin]; simp)]
            go_wp2_with (first | (go_at_call 76; refine (rin_any HWr.out HOr.out p (by rw [HEr.out]; exact hpl) j hj).mono ?_; rintro e w2 ⟨rfl, hw2⟩; rw [hw2]; clear hw2))
            go_roundw
            case rel => exact ⟨j + 1, by omega, by go_num, ⟨uv1, by rw [HS'.out]; exact HWr.out⟩, HFr.out⟩
            case measure => simp [intOf]; omega
          · have HS' : Hid (rReadsTo d1 k ((q : Int) + 1) ((p : Int) + 1) (j + 1) = rSends (rReadsTo d1 k ((q : Int) + 1) ((p : Int) + 1) j) { kind := 2, frm := k, to := j, epoch := (q : Int) + 1, n := 0, recs := [] }) := by
              show rReadsTo d1 k ((q : Int) + 1) ((p : Int) + 1) (j + 1) = _
              rw [rReadsTo, if_pos hin]
            go_wp2_with (first | (go_at_call 76; refine (rin_any HWr.out HOr.out p (by rw [HEr.out]; exact hpl) j hj).mono ?_; rintro e w2 ⟨rfl, hw2⟩; rw [hw2]; clear hw2))
            refine (rsends_any HWr.out HOr.out.way { kind := 2, frm := k, to := j, epoch := (q : Int) + 1, n := 0, recs := [] } _ rfl).mono ?_
            rintro e w3 ⟨rfl, ⟨uv2, hR2⟩, hF2⟩
            have HR2 : Hid (RRep w3 (Ext S W) b (rSends (rReadsTo d1 k ((q : Int) + 1) ((p : Int) + 1) j) { kind := 2, frm := k, to := j, epoch := (q : Int) + 1, n := 0, recs := [] }) ev uv2) := hR2.mono fun i _ e => Ext.sub HFr.out.size i e
            have HF2 : Hid (Fr S W w3) := HFr.out.trans hF2
            clear hR2 hF2
            go_wp2
            go_roundw
            case rel => exact ⟨j + 1, by omega, by go_num, ⟨uv2, by rw [HS'.out]; exact HR2.out⟩, HF2.out⟩
            case measure => simp [intOf]; omega
        · have : j = 5 := by omega
          subst this
          go_wp2_with fail
          exact bodyPost_end (results_none rfl _ _ _) rfl ⟨rfl, ⟨_, by rw [HFin.out]; exact HWr.out.mono fun i _ e => orR e fun e => Nat.le_trans HWB.out.size e⟩, HWB.out.then HFr.out⟩
    · by_cases hr2 : (d1.mem k).role = 2
      · have HFin : Hid (rStarts d k ((q : Int) + 1) = rHands d1 k) := by
          show rStarts d k ((q : Int) + 1) = _
          rw [HS0.out, HW.out, rStart2, if_neg hr1, if_pos hr2]
        rw [hr2] at m3
        clear hc hr1 hr2
        go_wp2_with fail
        refine (rhands_any (HR1.out.alloc _) HO1.out k hk HFo1.out).mono ?_
        rintro e w3 ⟨rfl, ⟨uv2, hR2⟩, hF2⟩
        have HR2 : Hid (RRep w3 (Ext S w) b (rHands d1 k) ev uv2) := hR2.mono fun i _ e => orR e fun e => by have := HF1.out.size; simp at e; omega
        have HF2 : Hid (Fr S w w3) := HF1.out.then ((Fr.alloc _ _ _).then hF2)
        clear hR2 hF2
        go_wp2
        exact bodyPost_end (results_none rfl _ _ _) rfl ⟨rfl, ⟨_, by rw [HFin.out]; exact HR2.out⟩, HF2.out⟩
      · have HFin : Hid (rStarts d k ((q : Int) + 1) = d1) := by
          show rStarts d k ((q : Int) + 1) = _
          rw [HS0.out, HW.out, rStart2, if_neg hr1, if_neg hr2]
        have b1 : ((d1.mem k).role == 1) = false := by simp [hr1]
        have b2 : ((d1.mem k).role == 2) = false := by simp [hr2]
        by_cases h0 : (d1.mem k).role = 0
        · have b0 : ((d1.mem k).role == 0) = true := by simp [h0]
          have hg : (q : Int) + 1 ≤ (d1.mem k).given := by omega
          clear hc hr1 hr2 h0
          go_wp2
          exact bodyPost_end (results_none rfl _ _ _) rfl ⟨rfl, ⟨_, by rw [HFin.out]; exact (HR1.out.alloc _).mono fun _ _ e => Or.inl e⟩, HF1.out.then (Fr.alloc _ _ _)⟩
        · have b0 : ((d1.mem k).role == 0) = false := by simp [h0]
          clear hc hr1 hr2 h0
          go_wp2
          exact bodyPost_end (results_none rfl _ _ _) rfl ⟨rfl, ⟨_, by rw [HFin.out]; exact (HR1.out.alloc _).mono fun _ _ e => Or.inl e⟩, HF1.out.then (Fr.alloc _ _ _)⟩
end
end Go.Proofs.Ythpjcmilfipbaaa
