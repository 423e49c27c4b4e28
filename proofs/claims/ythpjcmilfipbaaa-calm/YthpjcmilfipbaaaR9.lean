/- My own text: several texts in one. -/
import Derived.Test.YthpjcmilfipbaaaR8
import Derived.BigRegion
namespace Go.Proofs.Ythpjcmilfipbaaa
set_option linter.unusedVariables false
set_option linter.unusedSimpArgs false
open Go.RowKit
section
variable {w : World} {S : Nat → Prop} {b : Nat} {d : Wd} {ev uv : Value}

set_option maxHeartbeats 12000000 in
set_option maxRecDepth 100000 in
theorem rproduce_new (h : RRep w S b d ev uv) (hok : ROk d) (k : Nat) (hk : k < 5) (p s v : Int) (hr : rRef d (k : Int) true = 0) (hrec : recB p s v = true) (hro : (d.mem k).role = 3) (hkk : offsetOf (d.mem k).log p s < 0) (hgap : ¬ (1 < s ∧ offsetOf (d.mem k).log p (s - 1) < 0)) (hfull : (d.mem k).log.length < 60) :
    Calls Try.prog 61 #[.pointer (some ⟨b, 0, none⟩), .int .i64 k, .int .i64 p, .int .i64 s, .int .i64 v] w fun e w' =>
      e = .returned (.tuple #[.int .i64 (rProduce d k p s v).2.1, .bool (rProduce d k p s v).2.2.1, .int .i64 (rProduce d k p s v).2.2.2]) ∧
      (∃ uv', RRep w' (Ext S w) b (rProduce d k p s v).1 ev uv') ∧ Fr S w w' := by
  have H : Hid (RRep w S b d ev uv) := h
  have HO : Hid (ROk d) := hok
  have hb : (rRef d (k : Int) true != 0) = false := by simp [hr]
  have HW : Hid (rRef d (k : Int) true = 0) := hr
  clear hr
  obtain ⟨p1, p2, s1, s2, v1, v2⟩ := recB_parts hrec
  obtain ⟨m0, m1, m2, m3, m4, m5, m6, m7, m8, m9, m10, m11, m12, m13, m14⟩ := h.member k hk
  have hbw := h.lt
  have hlen := hok.log k hk
  have HBy : Hid (∀ r ∈ (d.mem k).log, recOk r) := hok.byt k hk
  have hnb : ¬ b = w.heap.size := by omega
  have hfz := h.free (k * 15 + 4)
  clear h hok
  have HF0 : Hid (rProduce d k p s v = rProduceAt d k p s v) := by show rProduce d k p s v = _; simp [rProduce, HW.out, hrec, hro]
  have hfol := HO.out.rol k hk (by omega)
  have hfol2 := (HO.out.fol k hk).2
  obtain ⟨q, hq⟩ : ∃ q : Nat, (d.mem k).follows = (q : Int) + 1 := ⟨((d.mem k).follows - 1).toNat, by omega⟩
  have HQ : Hid ((d.mem k).follows = (q : Int) + 1) := hq
  have hql : q < d.eras.length := by omega
  have hro2 : ((d.mem k).role != 3) = false := by simp [hro]
  have hob := offsetOf_bd (d.mem k).log p s
  have HKn : Hid (∀ j, j < 5 → 0 ≤ (d.mem k).knows j) := fun j hj => (HO.out.kno k j hk hj).1
  have HFo : Hid (1 ≤ (d.mem k).follows) := hfol
  clear hro hrec hfol hfol2 hq
  have HF : Hid (rProduce d k p s v = rProduceNew d k (offsetOf (d.mem k).log p s) ⟨p, s, v⟩) := by
    show rProduce d k p s v = _
    rw [HF0.out]
    have : ¬ 60 ≤ (d.mem k).log.length := by omega
    simp [rProduceAt, hkk, hgap, this]
  have hob2 := offsetOf_bd (d.mem k).log p (s - 1)
  have hfi : ((d.mem k).log.length : Int) < 60 := by omega
  have hrok : recOk ⟨p, s, v⟩ := ⟨by show 0 ≤ p; omega, by show p ≤ 255; omega, by show 0 ≤ s; omega, by show s ≤ 255; omega, by show 0 ≤ v; omega, by show v ≤ 255; omega⟩
  have HRok : Hid (recOk ⟨p, s, v⟩) := hrok
  have HOk1 : Hid (ROk (rPutLog d k ((d.mem k).log ++ [⟨p, s, v⟩]))) := HO.out.putLog k hk _ (by simp; omega) (fun r hr => by rcases List.mem_append.1 hr with hr | hr; exact HBy.out r hr; simp at hr; subst hr; exact hrok)
  clear hrok
  have hcase : (1 < s ∧ 0 ≤ offsetOf (d.mem k).log p (s - 1)) ∨ ¬ 1 < s := by omega
  rcases hcase with ⟨g1, g2⟩ | g1
  all_goals
    clear hgap
    go_enter Try.func61, Try.ntmps61
    go_wp2_with (first | (go_at_call 72; refine (rref_any H.out _ _).mono ?_; rintro e w1 ⟨rfl, hw1⟩; rw [hw1]; clear hw1) | (go_at_call 73; refine (rfind_any _ hlen HBy.out _ _ _).mono ?_; rintro e w1 ⟨rfl, hw1⟩; rw [hw1]; clear hw1) | (go_at_call 74; refine (rcount_any _ hlen _).mono ?_; rintro e w1 ⟨rfl, hw1⟩; rw [hw1]; clear hw1))
    refine wp_genR (fun W => RRep W (Now S w) b d ev uv ∧ Fr S w W ∧ Copy W w.heap.size (d.mem k)) ⟨H.out.now.alloc _, Fr.alloc _ _ _, copy_alloc w _⟩ ?_
    rintro W ⟨hWR, hWB, hWC⟩
    obtain ⟨_, _, _, f4⟩ := hWC.cells
    have c4 := hWR.cLog k hk
    have z4 := hWR.free (k * 15 + 4)
    have hbW := hWR.lt
    have hNW := hWC.lt
    have HWR : Hid (RRep W (Now S w) b d ev uv) := hWR
    have HWB : Hid (Fr S w W) := hWB
    have HWC : Hid (Copy W w.heap.size (d.mem k)) := hWC
    have hk0 : (0 : Int) ≤ (k : Int) := by omega
    have hk1 : (k : Int) < 5 := by omega
    have u1 : IntKind.u8.wrap p = p := wrap_u8 p (by omega) (by omega)
    have u2 : IntKind.u8.wrap s = s := wrap_u8 s (by omega) (by omega)
    have u3 : IntKind.u8.wrap v = v := wrap_u8 v (by omega) (by omega)
    have hconv := conv_rec ⟨p, s, v⟩ HRok.out W.heap.size
    have hadd : ∀ w', (Op.stringOp .add (encB (d.mem k).log) (encB [⟨p, s, v⟩])).run Try.prog w' = .ok (.string (encB ((d.mem k).log ++ [⟨p, s, v⟩]))) w' := fun w' => by
      rw [run_string_add_sum _ _ _ (by rw [encB_size, encB_size]; simp; omega), encB_append]
    clear hWR hWB hWC m0 m1 m2 m3 m4 m5 m6 m7 m8 m9 m10 m11 m12 m13 m14 hfz
    go_region
    all_goals
      have R : ∀ W1 : World, RRep W1 (Now S w) b d ev uv → Fr S w W1 → Copy W1 w.heap.size (d.mem k) → RRep (W1.setCell ⟨b, k * 15 + 4, none⟩ (.string (encB ((d.mem k).log ++ [⟨p, s, v⟩])))) (Now S w) b (rPutLog d k ((d.mem k).log ++ [⟨p, s, v⟩])) ev uv ∧ Fr S w (W1.setCell ⟨b, k * 15 + 4, none⟩ (.string (encB ((d.mem k).log ++ [⟨p, s, v⟩])))) ∧ Copy (W1.setCell ⟨b, k * 15 + 4, none⟩ (.string (encB ((d.mem k).log ++ [⟨p, s, v⟩])))) w.heap.size (d.mem k) := fun W1 h1 h2 h3 =>
        have q := h1.setCell (k * 15 + 4) (.string (encB ((d.mem k).log ++ [⟨p, s, v⟩]))) (rPutLog d k ((d.mem k).log ++ [⟨p, s, v⟩])) rfl rfl (fun cs hcs => hcs.setLog k hk _)
        ⟨q.1, h2.then q.2.now, h3.same (Below.heap_setCell _ _ _ _ (fun e => hnb e.symm))⟩
      have HRR := R W HWR.out HWB.out HWC.out
      have HRR1 : Hid _ := HRR
      clear R HRR hconv hadd
      go_wp2_with fail
      obtain ⟨r1, r2, r3⟩ := HRR1.out
      have q1 := (r1.alloc (.cells #[.int .u8 p, .int .u8 s, .int .u8 v] 5)).drew
      have q2 := (r2.then (Fr.alloc _ _ (.cells #[.int .u8 p, .int .u8 s, .int .u8 v] 5))).then (Fr.drew _ _)
      have q3 := (r3.same (Below.heap_alloc _ (.cells #[.int .u8 p, .int .u8 s, .int .u8 v] 5) _ r3.lt)).drewC
      clear r1 r2 r3
      refine (rdone_any q1 HOk1.out k hk).mono ?_
      rintro e w2 ⟨rfl, hBd⟩
      have HR2 : Hid (RRep w2 (Now S w) b (rPutLog d k ((d.mem k).log ++ [⟨p, s, v⟩])) ev uv) := q1.below hBd
      have HB2 : Hid (Fr S w w2) := q2.then (Fr.below hBd)
      have HC2 : Hid (Copy w2 w.heap.size (d.mem k)) := q3.same (hBd.block _ q3.lt)
      clear hBd q1 q2 q3 HRR1 HWR HWB HWC c4 z4 f4 hbW hNW
      go_wp2_with fail
      refine wp_genR (fun W => RRep W (Now S w) b (rPutLog d k ((d.mem k).log ++ [⟨p, s, v⟩])) ev uv ∧ Fr S w W ∧ Copy W w.heap.size (d.mem k)) ⟨HR2.out, HB2.out, HC2.out⟩ ?_
      rintro W ⟨hWR, hWB, hWC⟩
      have HWR : Hid (RRep W (Now S w) b (rPutLog d k ((d.mem k).log ++ [⟨p, s, v⟩])) ev uv) := hWR
      have HWB : Hid (Fr S w W) := hWB
      have HWC : Hid (Copy W w.heap.size (d.mem k)) := hWC
      clear hWR hWB hWC HR2 HB2 HC2
      have HFin : Hid (rProduceNew d k (offsetOf (d.mem k).log p s) ⟨p, s, v⟩ = (rProdTo (rPutLog d k ((d.mem k).log ++ [⟨p, s, v⟩])) k (d.mem k) (offsetOf (d.mem k).log p s) (d.mem k).log.length (rDone (rPutLog d k ((d.mem k).log ++ [⟨p, s, v⟩])) k) 5, ((d.mem k).log.length : Int), decide (((d.mem k).log.length : Int) < rDone (rPutLog d k ((d.mem k).log ++ [⟨p, s, v⟩])) k), 0)) := rfl
      generalize offsetOf (d.mem k).log p s = kk at *
      generalize rDone (rPutLog d k ((d.mem k).log ++ [⟨p, s, v⟩])) k = dn at *
      have hl1 : (((rPutLog d k ((d.mem k).log ++ [⟨p, s, v⟩]))).mem k).log.length = (d.mem k).log.length + 1 := by simp [rPutLog, Wd.put, upd]
      have hlen1 : (((rPutLog d k ((d.mem k).log ++ [⟨p, s, v⟩]))).mem k).log.length ≤ 60 := by omega
      have hf1 : 1 ≤ (((rPutLog d k ((d.mem k).log ++ [⟨p, s, v⟩]))).mem k).follows := by have := HFo.out; simpa [rPutLog, Wd.put, upd] using this
      have HPT : Hid (∀ j, j ≤ 5 → ROk (rProdTo (rPutLog d k ((d.mem k).log ++ [⟨p, s, v⟩])) k (d.mem k) kk (d.mem k).log.length dn j)) := HOk1.out.prodTo k hk (d.mem k) kk dn (d.mem k).log.length hf1 HKn.out (fun e => by omega) (fun e => by omega)
      have hnl : (d.mem k).log.length < (((rPutLog d k ((d.mem k).log ++ [⟨p, s, v⟩]))).mem k).log.length := by omega
      have HLen : Hid ((((rPutLog d k ((d.mem k).log ++ [⟨p, s, v⟩]))).mem k).log.length ≤ 60) := hlen1
      have HNl : Hid ((d.mem k).log.length < (((rPutLog d k ((d.mem k).log ++ [⟨p, s, v⟩]))).mem k).log.length) := hnl
      clear hl1 hlen1 hf1 hnl
      go_loopw [18] (fun t wr => ∃ j : Nat, j ≤ 5 ∧ t = .int .i64 j ∧ (∃ uv', RRep wr (Ext (Now S w) W) b (rProdTo (rPutLog d k ((d.mem k).log ++ [⟨p, s, v⟩])) k (d.mem k) kk (d.mem k).log.length dn j) ev uv') ∧ Fr (Now S w) W wr ∧ Copy wr w.heap.size (d.mem k)) (fun t _ => 5 - (intOf t).toNat)
      case atStart => exact ⟨0, Nat.zero_le _, rfl, ⟨_, HWR.out.mono fun _ _ e => Or.inl e⟩, Fr.refl _ _, HWC.out⟩
      case round =>
        obtain ⟨j, hj5, rfl, ⟨uv1, hRr⟩, hFr, hCr⟩ := hrel
        obtain ⟨f1, _, _, _⟩ := hCr.cells
        rw [HQ.out] at f1
        have HWr : Hid (RRep wr (Ext (Now S w) W) b (rProdTo (rPutLog d k ((d.mem k).log ++ [⟨p, s, v⟩])) k (d.mem k) kk (d.mem k).log.length dn j) ev uv1) := hRr
        have HFr : Hid (Fr (Now S w) W wr) := hFr
        have HCr : Hid (Copy wr w.heap.size (d.mem k)) := hCr
        have HMr : Hid ((rProdTo (rPutLog d k ((d.mem k).log ++ [⟨p, s, v⟩])) k (d.mem k) kk (d.mem k).log.length dn j).mem k = ((rPutLog d k ((d.mem k).log ++ [⟨p, s, v⟩]))).mem k) := by show (rProdTo (rPutLog d k ((d.mem k).log ++ [⟨p, s, v⟩])) k (d.mem k) kk (d.mem k).log.length dn j).mem k = _; rw [(rProdTo_same _ _ _ _ _ _ _).1]
        have HEr : Hid ((rProdTo (rPutLog d k ((d.mem k).log ++ [⟨p, s, v⟩])) k (d.mem k) kk (d.mem k).log.length dn j).eras = d.eras) := (rProdTo_same _ _ _ _ _ _ _).2.1
        clear hRr hFr hCr
        by_cases hj : j < 5
        · have HOr : Hid (ROk (rProdTo (rPutLog d k ((d.mem k).log ++ [⟨p, s, v⟩])) k (d.mem k) kk (d.mem k).log.length dn j)) := HPT.out j (by omega)
          have kj := HCr.out.knows j hj
          have hkb := HO.out.kno k j hk hj
          have hj0 : (0 : Int) ≤ (j : Int) := by omega
          have hj1 : (j : Int) < 5 := by omega
          by_cases ejk : j = k
          · have b1 : ((j : Int) == (k : Int)) = true := by simp [ejk]
            have HS' : Hid (rProdTo (rPutLog d k ((d.mem k).log ++ [⟨p, s, v⟩])) k (d.mem k) kk (d.mem k).log.length dn (j + 1) = rProdTo (rPutLog d k ((d.mem k).log ++ [⟨p, s, v⟩])) k (d.mem k) kk (d.mem k).log.length dn j) := by
              show rProdTo (rPutLog d k ((d.mem k).log ++ [⟨p, s, v⟩])) k (d.mem k) kk (d.mem k).log.length dn (j + 1) = _
              rw [rProdTo, if_pos (Or.inl ejk)]
            clear ejk
            go_wp2_with (first | (go_at_call 76; refine (rin_any HWr.out HOr.out q (by rw [HEr.out]; exact hql) j hj).mono ?_; rintro e w1 ⟨rfl, hw1⟩; rw [hw1]; clear hw1))
            go_roundw
            case rel => exact ⟨j + 1, by omega, by go_num, ⟨uv1, by rw [HS'.out]; exact HWr.out⟩, HFr.out, HCr.out⟩
            case measure => simp [intOf]; omega
          · have b1 : ((j : Int) == (k : Int)) = false := by simp; omega
            cases hin : rIn (rProdTo (rPutLog d k ((d.mem k).log ++ [⟨p, s, v⟩])) k (d.mem k) kk (d.mem k).log.length dn j) ((q : Int) + 1) j
            · have HS' : Hid (rProdTo (rPutLog d k ((d.mem k).log ++ [⟨p, s, v⟩])) k (d.mem k) kk (d.mem k).log.length dn (j + 1) = rProdTo (rPutLog d k ((d.mem k).log ++ [⟨p, s, v⟩])) k (d.mem k) kk (d.mem k).log.length dn j) := by
                show rProdTo (rPutLog d k ((d.mem k).log ++ [⟨p, s, v⟩])) k (d.mem k) kk (d.mem k).log.length dn (j + 1) = _
                rw [rProdTo, if_pos (Or.inr (by rw [HQ.out]; exact hin))]
              clear ejk
              go_wp2_with (first | (go_at_call 76; refine (rin_any HWr.out HOr.out q (by rw [HEr.out]; exact hql) j hj).mono ?_; rintro e w1 ⟨rfl, hw1⟩; rw [hw1]; clear hw1))
              go_roundw
              case rel => exact ⟨j + 1, by omega, by go_num, ⟨uv1, by rw [HS'.out]; exact HWr.out⟩, HFr.out, HCr.out⟩
              case measure => simp [intOf]; omega
            · have HS' : Hid (rProdTo (rPutLog d k ((d.mem k).log ++ [⟨p, s, v⟩])) k (d.mem k) kk (d.mem k).log.length dn (j + 1) = rAppends (rProdTo (rPutLog d k ((d.mem k).log ++ [⟨p, s, v⟩])) k (d.mem k) kk (d.mem k).log.length dn j) k j ((d.mem k).log.length : Int)) := by
                show rProdTo (rPutLog d k ((d.mem k).log ++ [⟨p, s, v⟩])) k (d.mem k) kk (d.mem k).log.length dn (j + 1) = _
                rw [rProdTo, if_neg (by rw [HQ.out]; simp [ejk, hin]), if_pos hkk]
              clear ejk
              go_wp2_with (first | (go_at_call 76; refine (rin_any HWr.out HOr.out q (by rw [HEr.out]; exact hql) j hj).mono ?_; rintro e w1 ⟨rfl, hw1⟩; rw [hw1]; clear hw1))
              refine (rappends_any HWr.out HOr.out.way k j hk (d.mem k).log.length (by rw [HMr.out]; exact HNl.out) (by rw [HMr.out]; exact HLen.out)).mono ?_
              rintro e w2 ⟨rfl, ⟨uv2, hR2⟩, hF2⟩
              have HR2 : Hid (RRep w2 (Ext (Now S w) W) b (rAppends (rProdTo (rPutLog d k ((d.mem k).log ++ [⟨p, s, v⟩])) k (d.mem k) kk (d.mem k).log.length dn j) k j ((d.mem k).log.length : Int)) ev uv2) := hR2.mono fun i _ e => Ext.sub HFr.out.size i e
              have HF2 : Hid (Fr (Now S w) W w2) := HFr.out.trans hF2
              have HC2 : Hid (Copy w2 w.heap.size (d.mem k)) := HCr.out.same (hF2.block _ HCr.out.lt (fun e => e.elim (fun e => Nat.lt_irrefl _ e.2) (fun e => by have := HWC.out.lt; omega)))
              clear hR2 hF2
              go_wp2
              go_roundw
              case rel => exact ⟨j + 1, by omega, by go_num, ⟨uv2, by rw [HS'.out]; exact HR2.out⟩, HF2.out, HC2.out⟩
              case measure => simp [intOf]; omega
        · have : j = 5 := by omega
          subst this
          go_wp2_with fail
          go_ret3
          rw [HF.out, HFin.out]
          exact ⟨rfl, ⟨_, HWr.out.back HWB.out.size⟩, HWB.out.then HFr.out.now⟩
end
end Go.Proofs.Ythpjcmilfipbaaa
