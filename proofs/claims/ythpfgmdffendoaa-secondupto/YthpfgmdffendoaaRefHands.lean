/- My own text. Walks of package ledgerref: others, hands. -/
import Derived.Test.YthpfgmdffendoaaRefSmall
namespace Go.Proofs.Ythpfgmdffendoaa
set_option linter.unusedVariables false
set_option linter.unusedSimpArgs false
open Go.RowKit
theorem rOthersTo_stays (d : Wd) (k : Nat) : ∀ (n j : Nat), rOthersTo d k j = false → rOthersTo d k (j + n) = false
  | 0, j, h => h
  | n + 1, j, h => by
    have := rOthersTo_stays d k n j h
    show (rOthersTo d k (j + n) && _) = false
    rw [this]; rfl
theorem rOthers_no {d : Wd} {k j : Nat} (hj : j < 5) (h : rOthersTo d k (j + 1) = false) : rOthers d k = false := by
  have := rOthersTo_stays d k (4 - j) (j + 1) h
  rw [show j + 1 + (4 - j) = 5 by omega] at this
  exact this
theorem rHandsTo_same (d : Wd) (k : Nat) (m : Mem) : ∀ j, (rHandsTo d k m j).mem = d.mem ∧ (rHandsTo d k m j).eras = d.eras ∧ (rHandsTo d k m j).active = d.active
  | 0 => ⟨rfl, rfl, rfl⟩
  | j + 1 => by
    have ih := rHandsTo_same d k m j
    unfold rHandsTo
    split
    · rw [(rSends_same _ _).1, (rSends_same _ _).2.1, (rSends_same _ _).2.2]; exact ih
    · exact ih
theorem ROk.handsTo {d : Wd} (h : ROk d) (k : Nat) (hk : k < 5) (hf : 1 ≤ (d.mem k).follows) : ∀ j, j ≤ 5 → ROk (rHandsTo d k (d.mem k) j)
  | 0, _ => h
  | j + 1, hj => by
    have ih := h.handsTo k hk hf j (by omega)
    have hs := (rHandsTo_same d k (d.mem k) j).2.1
    have hl := h.log k hk
    unfold rHandsTo
    split
    · refine ih.sends ⟨⟨by show (-1 : Int) ≤ (j : Int); omega, by show (j : Int) < 5; omega⟩, ⟨by show (-1 : Int) ≤ (k : Int); omega, by show (k : Int) < 5; omega⟩, fun _ => by show (0 : Int) ≤ (k : Int); omega, ⟨hf, by rw [hs]; exact (h.fol k hk).2⟩, fun e => by simp at e, ⟨by show (0 : Int) ≤ ((d.mem k).log.length : Int); omega, by show ((d.mem k).log.length : Int) ≤ 60; omega⟩, hl, fun e => by simp at e, h.byt k hk⟩
    · exact ih
theorem ROk.ready {d : Wd} (h : ROk d) (k : Nat) (hk : k < 5) (e : Int) (h1 : 1 ≤ e) (h2 : e ≤ d.eras.length) : ROk (rReady d k e) :=
  h.sends ⟨⟨by show (-1 : Int) ≤ -1; omega, by show (-1 : Int) < 5; omega⟩, ⟨by show (-1 : Int) ≤ (k : Int); omega, by show (k : Int) < 5; omega⟩, fun _ => by show (0 : Int) ≤ (k : Int); omega, ⟨h1, h2⟩, fun e => by simp at e, ⟨by show (0 : Int) ≤ 0; omega, by show (0 : Int) ≤ 60; omega⟩, Nat.zero_le _, fun e => by simp at e, fun r hr => by simp at hr⟩
theorem ROk.hands {d : Wd} (h : ROk d) (k : Nat) (hk : k < 5) (hf : 1 ≤ (d.mem k).follows) : ROk (rHands d k) := by
  unfold rHands
  split
  · exact h.ready k hk _ hf (h.fol k hk).2
  · exact h.handsTo k hk hf 5 (Nat.le_refl _)
section
variable {w : World} {S : Nat → Prop} {b : Nat} {d : Wd} {ev uv : Value}

set_option maxHeartbeats 1600000 in
set_option maxRecDepth 100000 in
theorem rothers_any (h : RRep w S b d ev uv) (hok : ROk d) (k : Nat) (hk : k < 5) (hf : 1 ≤ (d.mem k).follows) :
    Calls Try.prog 88 #[.pointer (some ⟨b, 0, none⟩), .int .i64 k] w fun e w' => e = .returned (.bool (rOthers d k)) ∧ Below w.heap.size w w' := by
  obtain ⟨m0, m1, m2, m3, m4, m5, m6, m7, m8, m9, m10, m11, m12, m13, m14⟩ := h.member k hk
  have hb := h.lt
  have H : Hid (RRep w S b d ev uv) := h
  have HO : Hid (ROk d) := hok
  have hfol2 := (hok.fol k hk).2
  obtain ⟨q, hq⟩ : ∃ q : Nat, (d.mem k).follows = (q : Int) + 1 := ⟨((d.mem k).follows - 1).toNat, by omega⟩
  have HQ : Hid ((d.mem k).follows = (q : Int) + 1) := hq
  have hql : q < d.eras.length := by omega
  clear h hok hf hfol2 hq
  go_enter Try.func88, Try.ntmps88
  go_wp2_with fail
  refine wp_genR (fun W => RRep W S b d ev uv ∧ Below w.heap.size w W ∧ Copy W w.heap.size (d.mem k)) ⟨H.out.alloc _, (Below.refl _ _).alloc (Nat.le_refl _) _, copy_alloc w _⟩ ?_
  rintro W ⟨hWR, hWB, hWC⟩
  obtain ⟨f1, _, _, _⟩ := hWC.cells
  rw [HQ.out] at f1
  have HWR : Hid (RRep W S b d ev uv) := hWR
  have HWB : Hid (Below w.heap.size w W) := hWB
  have HWC : Hid (Copy W w.heap.size (d.mem k)) := hWC
  clear hWR hWB hWC m0 m1 m2 m3 m4 m5 m6 m7 m8 m9 m10 m11 m12 m13 m14
  go_loop [6] (fun i => ∃ j : Nat, j ≤ 5 ∧ i = .int .i64 j ∧ rOthersTo d k j = true) (fun i => 5 - (intOf i).toNat)
  case atStart => exact ⟨0, Nat.zero_le _, rfl, rfl⟩
  case round =>
    obtain ⟨j, hj5, rfl, hT⟩ := hrel
    have HT : Hid (rOthersTo d k j = true) := hT
    clear hT
    by_cases hj : j < 5
    · have hh := HWC.out.has j hj
      have hj0 : (0 : Int) ≤ (j : Int) := by omega
      have hj1 : (j : Int) < 5 := by omega
      have HS : Hid (rOthersTo d k (j + 1) = !(decide (j ≠ k) && rIn d ((q : Int) + 1) j && !(d.mem k).has j)) := by
        show (rOthersTo d k j && _) = _
        rw [HT.out, ← HQ.out]; rfl
      by_cases ejk : j = k
      · have b1 : ((j : Int) != (k : Int)) = false := by simp [ejk]
        have HS' : Hid (rOthersTo d k (j + 1) = true) := by show rOthersTo d k (j + 1) = true; rw [HS.out]; simp [ejk]
        clear ejk HS
        go_wp2_with (first | (go_at_call 62; refine (rin_any HWR.out HO.out q hql j hj).mono ?_; rintro e w1 ⟨rfl, hw1⟩; rw [hw1]; clear hw1))
        go_round
        case rel => exact ⟨j + 1, by omega, by go_num, HS'.out⟩
        case measure => simp [intOf]; omega
      · have b1 : ((j : Int) != (k : Int)) = true := by simp; omega
        cases hin : rIn d ((q : Int) + 1) j
        · have HS' : Hid (rOthersTo d k (j + 1) = true) := by show rOthersTo d k (j + 1) = true; rw [HS.out, hin]; simp
          clear ejk HS
          go_wp2_with (first | (go_at_call 62; refine (rin_any HWR.out HO.out q hql j hj).mono ?_; rintro e w1 ⟨rfl, hw1⟩; rw [hw1]; clear hw1))
          go_round
          case rel => exact ⟨j + 1, by omega, by go_num, HS'.out⟩
          case measure => simp [intOf]; omega
        · cases hhas : (d.mem k).has j <;> rw [hhas] at hh
          · have HF : Hid (rOthers d k = false) := rOthers_no hj (by rw [HS.out, hin, hhas]; simp [ejk])
            clear ejk HS
            go_wp2_with (first | (go_at_call 62; refine (rin_any HWR.out HO.out q hql j hj).mono ?_; rintro e w1 ⟨rfl, hw1⟩; rw [hw1]; clear hw1))
            go_ret
            exact ⟨ret_boolR HF.out.symm, HWB.out⟩
          · have HS' : Hid (rOthersTo d k (j + 1) = true) := by show rOthersTo d k (j + 1) = true; rw [HS.out, hin, hhas]; simp
            clear ejk HS
            go_wp2_with (first | (go_at_call 62; refine (rin_any HWR.out HO.out q hql j hj).mono ?_; rintro e w1 ⟨rfl, hw1⟩; rw [hw1]; clear hw1))
            go_round
            case rel => exact ⟨j + 1, by omega, by go_num, HS'.out⟩
            case measure => simp [intOf]; omega
    · have : j = 5 := by omega
      subst this
      go_wp2_with fail
      go_ret
      exact ⟨ret_boolR HT.out.symm, HWB.out⟩

set_option maxHeartbeats 3200000 in
set_option maxRecDepth 100000 in
theorem rhands_any (h : RRep w S b d ev uv) (hok : ROk d) (k : Nat) (hk : k < 5) (hf : 1 ≤ (d.mem k).follows) :
    Calls Try.prog 87 #[.pointer (some ⟨b, 0, none⟩), .int .i64 k] w fun e w' =>
      e = .returned (.tuple #[]) ∧ (∃ uv', RRep w' (Ext S w) b (rHands d k) ev uv') ∧ Fr S w w' := by
  obtain ⟨m0, m1, m2, m3, m4, m5, m6, m7, m8, m9, m10, m11, m12, m13, m14⟩ := h.member k hk
  have hb := h.lt
  have H : Hid (RRep w S b d ev uv) := h
  have HO : Hid (ROk d) := hok
  have hfol2 := (hok.fol k hk).2
  have hlen := hok.log k hk
  obtain ⟨q, hq⟩ : ∃ q : Nat, (d.mem k).follows = (q : Int) + 1 := ⟨((d.mem k).follows - 1).toNat, by omega⟩
  have HQ : Hid ((d.mem k).follows = (q : Int) + 1) := hq
  have hql : q < d.eras.length := by omega
  have HFo : Hid (1 ≤ (d.mem k).follows) := hf
  clear h hok hf hfol2 hq
  go_enter Try.func87, Try.ntmps87
  go_wp2_with fail
  refine (rothers_any (H.out.alloc _) HO.out k hk HFo.out).mono ?_
  rintro e w2 ⟨rfl, hBd⟩
  have HR2 : Hid (RRep w2 (Now S w) b d ev uv) := (H.out.now.alloc _).below hBd
  have HB2 : Hid (Fr S w w2) := (Fr.alloc _ _ _).then (Fr.below hBd)
  have HC2 : Hid (Copy w2 w.heap.size (d.mem k)) := (copy_alloc w (d.mem k)).same (hBd.block _ (by simp))
  clear hBd m0 m1 m2 m3 m4 m5 m6 m7 m8 m9 m10 m11 m12 m13 m14
  obtain ⟨g1, _, _, _⟩ := HC2.out.cells
  cases hall : rOthers d k
  rotate_left
  · have HF : Hid (rHands d k = rReady d k (d.mem k).follows) := by show rHands d k = _; simp [rHands, hall]
    go_wp2_with fail
    refine (rsends_any HR2.out HO.out.way { kind := 6, frm := k, to := -1, epoch := (d.mem k).follows, n := 0, recs := [] } _ rfl).mono ?_
    rintro e w3 ⟨rfl, ⟨uv3, hR3⟩, hF3⟩
    have HR3 : Hid _ := hR3
    have HF3 : Hid _ := hF3
    clear hR3 hF3
    go_wp2
    exact bodyPost_ret (results_none rfl _ _ _) rfl ⟨rfl, ⟨uv3, by rw [HF.out]; exact HR3.out.back HB2.out.size⟩, HB2.out.then HF3.out.now⟩
  have HF : Hid (rHands d k = rHandsTo d k (d.mem k) 5) := by show rHands d k = _; simp [rHands, hall]
  clear g1
  go_wp2_with fail
  refine wp_genR (fun W => RRep W (Now S w) b d ev uv ∧ Fr S w W ∧ Copy W w.heap.size (d.mem k)) ⟨HR2.out, HB2.out, HC2.out⟩ ?_
  rintro W ⟨hWR, hWB, hWC⟩
  have HWR : Hid (RRep W (Now S w) b d ev uv) := hWR
  have HWB : Hid (Fr S w W) := hWB
  have HWC : Hid (Copy W w.heap.size (d.mem k)) := hWC
  clear hWR hWB hWC HR2 HB2 HC2
  go_loopw [6] (fun t wr => ∃ j : Nat, j ≤ 5 ∧ t = .int .i64 j ∧ (∃ uv', RRep wr (Ext (Now S w) W) b (rHandsTo d k (d.mem k) j) ev uv') ∧ Fr (Now S w) W wr ∧ Copy wr w.heap.size (d.mem k)) (fun t _ => 5 - (intOf t).toNat)
  case atStart => exact ⟨0, Nat.zero_le _, rfl, ⟨_, HWR.out.mono fun _ _ e => Or.inl e⟩, Fr.refl _ _, HWC.out⟩
  case round =>
    obtain ⟨j, hj5, rfl, ⟨uv1, hRr⟩, hFr, hCr⟩ := hrel
    obtain ⟨f1, _, _, f4⟩ := hCr.cells
    have HWr : Hid (RRep wr (Ext (Now S w) W) b (rHandsTo d k (d.mem k) j) ev uv1) := hRr
    have HFr : Hid (Fr (Now S w) W wr) := hFr
    have HCr : Hid (Copy wr w.heap.size (d.mem k)) := hCr
    have HEr : Hid ((rHandsTo d k (d.mem k) j).eras = d.eras) := (rHandsTo_same _ _ _ _).2.1
    clear hRr hFr hCr
    by_cases hj : j < 5
    · have HOr : Hid (ROk (rHandsTo d k (d.mem k) j)) := HO.out.handsTo k hk HFo.out j (by omega)
      have hh := HCr.out.has j hj
      have hj0 : (0 : Int) ≤ (j : Int) := by omega
      have hj1 : (j : Int) < 5 := by omega
      rw [HQ.out] at f1
      by_cases ejk : j = k
      · have b1 : ((j : Int) != (k : Int)) = false := by simp [ejk]
        have HS' : Hid (rHandsTo d k (d.mem k) (j + 1) = rHandsTo d k (d.mem k) j) := by
          show rHandsTo d k (d.mem k) (j + 1) = _
          rw [rHandsTo, if_neg (by simp [ejk])]
        clear ejk
        go_wp2_with (first | (go_at_call 62; refine (rin_any HWr.out HOr.out q (by rw [HEr.out]; exact hql) j hj).mono ?_; rintro e w1 ⟨rfl, hw1⟩; rw [hw1]; clear hw1))
        go_roundw
        case rel => exact ⟨j + 1, by omega, by go_num, ⟨uv1, by rw [HS'.out]; exact HWr.out⟩, HFr.out, HCr.out⟩
        case measure => simp [intOf]; omega
      · have b1 : ((j : Int) != (k : Int)) = true := by simp; omega
        cases hin : rIn (rHandsTo d k (d.mem k) j) ((q : Int) + 1) j
        · have HS' : Hid (rHandsTo d k (d.mem k) (j + 1) = rHandsTo d k (d.mem k) j) := by
            show rHandsTo d k (d.mem k) (j + 1) = _
            rw [rHandsTo, if_neg (by rw [HQ.out, hin]; simp)]
          clear ejk
          go_wp2_with (first | (go_at_call 62; refine (rin_any HWr.out HOr.out q (by rw [HEr.out]; exact hql) j hj).mono ?_; rintro e w1 ⟨rfl, hw1⟩; rw [hw1]; clear hw1))
          go_roundw
          case rel => exact ⟨j + 1, by omega, by go_num, ⟨uv1, by rw [HS'.out]; exact HWr.out⟩, HFr.out, HCr.out⟩
          case measure => simp [intOf]; omega
        · cases hhas : (d.mem k).has j <;> rw [hhas] at hh
          rotate_left
          · have HS' : Hid (rHandsTo d k (d.mem k) (j + 1) = rHandsTo d k (d.mem k) j) := by
              show rHandsTo d k (d.mem k) (j + 1) = _
              rw [rHandsTo, if_neg (by rw [hhas]; simp)]
            clear ejk
            go_wp2_with (first | (go_at_call 62; refine (rin_any HWr.out HOr.out q (by rw [HEr.out]; exact hql) j hj).mono ?_; rintro e w1 ⟨rfl, hw1⟩; rw [hw1]; clear hw1))
            go_roundw
            case rel => exact ⟨j + 1, by omega, by go_num, ⟨uv1, by rw [HS'.out]; exact HWr.out⟩, HFr.out, HCr.out⟩
            case measure => simp [intOf]; omega
          · have HS' : Hid (rHandsTo d k (d.mem k) (j + 1) = rSends (rHandsTo d k (d.mem k) j) { kind := 4, frm := k, to := j, epoch := (q : Int) + 1, n := (d.mem k).log.length, recs := (d.mem k).log }) := by
              show rHandsTo d k (d.mem k) (j + 1) = _
              rw [rHandsTo, if_pos ⟨ejk, by rw [HQ.out]; exact hin, hhas⟩, HQ.out]
            clear ejk
            go_wp2_with (first | (go_at_call 62; refine (rin_any HWr.out HOr.out q (by rw [HEr.out]; exact hql) j hj).mono ?_; rintro e w1 ⟨rfl, hw1⟩; rw [hw1]; clear hw1))
            go_region_held3 (fun w' => w'.cell? ⟨w.heap.size, 1, none⟩ = some (.int .i64 ((q : Int) + 1)) ∧ w'.cell? ⟨w.heap.size, 4, none⟩ = some (.string (encB (d.mem k).log)))
              (first
                | exact ⟨f1, f4⟩
                | exact ⟨(World.cell?_of_block (hFr2.out.block w.heap.size HCr.out.lt (fun e => e.elim (fun e => Nat.lt_irrefl _ e.2) (fun e => by have := HWC.out.lt; omega)))).trans f1, (World.cell?_of_block (hFr2.out.block w.heap.size HCr.out.lt (fun e => e.elim (fun e => Nat.lt_irrefl _ e.2) (fun e => by have := HWC.out.lt; omega)))).trans f4⟩)
              (first
                | (go_at_call 60; refine (rcount_any _ hlen _).mono ?_; rintro e w1 ⟨rfl, hw1⟩; rw [hw1]; clear hw1)
                | (go_at_call 79; refine (rsends_any HWr.out.drew HOr.out.way { kind := 4, frm := k, to := j, epoch := (q : Int) + 1, n := (d.mem k).log.length, recs := (d.mem k).log } _ rfl).mono ?_; rintro e w2 ⟨rfl, hR2, hF2⟩; have HR2 : Hid _ := hR2; have hFr2 : Hid _ := hF2; clear hR2 hF2))
            all_goals
              obtain ⟨uv2, hR2⟩ := HR2.out
              have HR3 : Hid (RRep w2 (Ext (Now S w) W) b (rSends (rHandsTo d k (d.mem k) j) { kind := 4, frm := k, to := j, epoch := (q : Int) + 1, n := (d.mem k).log.length, recs := (d.mem k).log }) ev uv2) := hR2.mono fun i _ e => Ext.sub (S := Now S w) (w' := wr) HFr.out.size i e
              have HF3 : Hid (Fr (Now S w) W w2) := (HFr.out.then (Fr.drew _ wr)).trans hFr2.out
              have HC3 : Hid (Copy w2 w.heap.size (d.mem k)) := HCr.out.same (hFr2.out.block _ HCr.out.lt (fun e => e.elim (fun e => Nat.lt_irrefl _ e.2) (fun e => by have := HWC.out.lt; omega)))
              clear hR2 HR2 hFr2
              go_wp2
              go_roundw
              case rel => exact ⟨j + 1, by omega, by go_num, ⟨uv2, by rw [HS'.out]; exact HR3.out⟩, HF3.out, HC3.out⟩
              case measure => simp [intOf]; omega
    · have : j = 5 := by omega
      subst this
      go_wp2_with fail
      exact bodyPost_end (results_none rfl _ _ _) rfl ⟨rfl, ⟨_, by rw [HF.out]; exact HWr.out.back HWB.out.size⟩, HWB.out.then HFr.out.now⟩
end
end Go.Proofs.Ythpfgmdffendoaa
