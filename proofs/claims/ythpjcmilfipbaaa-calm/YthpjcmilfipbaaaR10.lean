/- My own text: several texts in one. -/
import Derived.Test.YthpjcmilfipbaaaR8
namespace Go.Proofs.Ythpjcmilfipbaaa
set_option linter.unusedVariables false
set_option linter.unusedSimpArgs false
open Go.RowKit
section
variable {w : World} {S : Nat → Prop} {b : Nat} {d : Wd} {ev uv : Value}

set_option maxHeartbeats 3200000 in
set_option maxRecDepth 100000 in
theorem rproduce_old (h : RRep w S b d ev uv) (hok : ROk d) (k : Nat) (hk : k < 5) (p s v : Int) (hr : rRef d (k : Int) true = 0) (hrec : recB p s v = true) (hro : (d.mem k).role = 3) (hkk : ¬ offsetOf (d.mem k).log p s < 0) :
    Calls Try.prog 61 #[.pointer (some ⟨b, 0, none⟩), .int .i64 k, .int .i64 p, .int .i64 s, .int .i64 v] w fun e w' =>
      e = .returned (.tuple #[.int .i64 (rProduce d k p s v).2.1, .bool (rProduce d k p s v).2.2.1, .int .i64 (rProduce d k p s v).2.2.2]) ∧
      (∃ uv', RRep w' (Ext S w) b (rProduce d k p s v).1 ev uv') ∧ Fr S w w' := by
  have H : Hid (RRep w S b d ev uv) := h
  have HO : Hid (ROk d) := hok
  have hb : (rRef d (k : Int) true != 0) = false := by simp [hr]
  have HW : Hid (rRef d (k : Int) true = 0) := hr
  clear hr
  obtain ⟨p1, p2, s1, s2, v1, v2⟩ := recB_parts hrec
  obtain ⟨m0, m1, m2, m3, m4, m5, m6, m7, m8, m9, m10, m11, m12, m13, m14⟩ := h.member k hk
  have hbw := h.lt
  have hlen := hok.log k hk
  have HBy : Hid (∀ r ∈ (d.mem k).log, recOk r) := hok.byt k hk
  have hnb : ¬ b = w.heap.size := by omega
  have hfz := h.free (k * 15 + 4)
  clear h hok
  have HF0 : Hid (rProduce d k p s v = rProduceAt d k p s v) := by show rProduce d k p s v = _; simp [rProduce, HW.out, hrec, hro]
  have hfol := HO.out.rol k hk (by omega)
  have hfol2 := (HO.out.fol k hk).2
  obtain ⟨q, hq⟩ : ∃ q : Nat, (d.mem k).follows = (q : Int) + 1 := ⟨((d.mem k).follows - 1).toNat, by omega⟩
  have HQ : Hid ((d.mem k).follows = (q : Int) + 1) := hq
  have hql : q < d.eras.length := by omega
  have hro2 : ((d.mem k).role != 3) = false := by simp [hro]
  have hob := offsetOf_bd (d.mem k).log p s
  have HKn : Hid (∀ j, j < 5 → 0 ≤ (d.mem k).knows j) := fun j hj => (HO.out.kno k j hk hj).1
  have HFo : Hid (1 ≤ (d.mem k).follows) := hfol
  clear hro hrec hfol hfol2 hq
  have HF : Hid (rProduce d k p s v = rProduceOld d k (offsetOf (d.mem k).log p s)) := by show rProduce d k p s v = _; rw [HF0.out]; simp [rProduceAt, hkk]
  go_enter Try.func61, Try.ntmps61
  go_wp2_with (first | (go_at_call 72; refine (rref_any H.out _ _).mono ?_; rintro e w1 ⟨rfl, hw1⟩; rw [hw1]; clear hw1) | (go_at_call 73; refine (rfind_any _ hlen HBy.out _ _ _).mono ?_; rintro e w1 ⟨rfl, hw1⟩; rw [hw1]; clear hw1) | (go_at_call 74; refine (rcount_any _ hlen _).mono ?_; rintro e w1 ⟨rfl, hw1⟩; rw [hw1]; clear hw1))
  refine (rdone_any (H.out.alloc _) HO.out k hk).mono ?_
  rintro e w2 ⟨rfl, hBd⟩
  have HR2 : Hid (RRep w2 (Now S w) b d ev uv) := (H.out.now.alloc _).below hBd
  have HB2 : Hid (Fr S w w2) := (Fr.alloc _ _ _).then (Fr.below hBd)
  have HC2 : Hid (Copy w2 w.heap.size (d.mem k)) := (copy_alloc w (d.mem k)).same (hBd.block _ (by simp))
  clear hBd m0 m1 m2 m3 m4 m5 m6 m7 m8 m9 m10 m11 m12 m13 m14
  go_wp2_with fail
  refine wp_genR (fun W => RRep W (Now S w) b d ev uv ∧ Fr S w W ∧ Copy W w.heap.size (d.mem k)) ⟨HR2.out, HB2.out, HC2.out⟩ ?_
  rintro W ⟨hWR, hWB, hWC⟩
  have HWR : Hid (RRep W (Now S w) b d ev uv) := hWR
  have HWB : Hid (Fr S w W) := hWB
  have HWC : Hid (Copy W w.heap.size (d.mem k)) := hWC
  clear hWR hWB hWC HR2 HB2 HC2
  have HFin : Hid (rProduceOld d k (offsetOf (d.mem k).log p s) = (rProdTo d k (d.mem k) (offsetOf (d.mem k).log p s) (d.mem k).log.length (rDone d k) 5, offsetOf (d.mem k).log p s, decide (offsetOf (d.mem k).log p s < rDone d k), 0)) := rfl
  generalize offsetOf (d.mem k).log p s = kk at *
  generalize rDone d k = dn at *
  have hkk0 : 0 ≤ kk := by omega
  have hlen1 := hlen
  have HPT : Hid (∀ j, j ≤ 5 → ROk (rProdTo d k (d.mem k) kk (d.mem k).log.length dn j)) := HO.out.prodTo k hk (d.mem k) kk dn (d.mem k).log.length HFo.out HKn.out (fun e => by omega) (fun _ => rfl)
  generalize hnn : (d.mem k).log.length = n at *
  have HNN : Hid ((d.mem k).log.length = n) := hnn
  clear hnn
  go_loopw [18] (fun t wr => ∃ j : Nat, j ≤ 5 ∧ t = .int .i64 j ∧ (∃ uv', RRep wr (Ext (Now S w) W) b (rProdTo d k (d.mem k) kk n dn j) ev uv') ∧ Fr (Now S w) W wr ∧ Copy wr w.heap.size (d.mem k)) (fun t _ => 5 - (intOf t).toNat)
  case atStart => exact ⟨0, Nat.zero_le _, rfl, ⟨_, HWR.out.mono fun _ _ e => Or.inl e⟩, Fr.refl _ _, HWC.out⟩
  case round =>
    obtain ⟨j, hj5, rfl, ⟨uv1, hRr⟩, hFr, hCr⟩ := hrel
    obtain ⟨f1, _, _, _⟩ := hCr.cells
    rw [HQ.out] at f1
    have HWr : Hid (RRep wr (Ext (Now S w) W) b (rProdTo d k (d.mem k) kk n dn j) ev uv1) := hRr
    have HFr : Hid (Fr (Now S w) W wr) := hFr
    have HCr : Hid (Copy wr w.heap.size (d.mem k)) := hCr
    have HMr : Hid ((rProdTo d k (d.mem k) kk n dn j).mem k = (d).mem k) := by show (rProdTo d k (d.mem k) kk n dn j).mem k = _; rw [(rProdTo_same _ _ _ _ _ _ _).1]
    have HEr : Hid ((rProdTo d k (d.mem k) kk n dn j).eras = d.eras) := (rProdTo_same _ _ _ _ _ _ _).2.1
    clear hRr hFr hCr
    by_cases hj : j < 5
    · have HOr : Hid (ROk (rProdTo d k (d.mem k) kk n dn j)) := HPT.out j (by omega)
      have kj := HCr.out.knows j hj
      have hkb := HO.out.kno k j hk hj
      have hj0 : (0 : Int) ≤ (j : Int) := by omega
      have hj1 : (j : Int) < 5 := by omega
      by_cases ejk : j = k
      · have b1 : ((j : Int) == (k : Int)) = true := by simp [ejk]
        have HS' : Hid (rProdTo d k (d.mem k) kk n dn (j + 1) = rProdTo d k (d.mem k) kk n dn j) := by
          show rProdTo d k (d.mem k) kk n dn (j + 1) = _
          rw [rProdTo, if_pos (Or.inl ejk)]
        clear ejk
        go_wp2_with (first | (go_at_call 76; refine (rin_any HWr.out HOr.out q (by rw [HEr.out]; exact hql) j hj).mono ?_; rintro e w1 ⟨rfl, hw1⟩; rw [hw1]; clear hw1))
        go_roundw
        case rel => exact ⟨j + 1, by omega, by go_num, ⟨uv1, by rw [HS'.out]; exact HWr.out⟩, HFr.out, HCr.out⟩
        case measure => simp [intOf]; omega
      · have b1 : ((j : Int) == (k : Int)) = false := by simp; omega
        cases hin : rIn (rProdTo d k (d.mem k) kk n dn j) ((q : Int) + 1) j
        · have HS' : Hid (rProdTo d k (d.mem k) kk n dn (j + 1) = rProdTo d k (d.mem k) kk n dn j) := by
            show rProdTo d k (d.mem k) kk n dn (j + 1) = _
            rw [rProdTo, if_pos (Or.inr (by rw [HQ.out]; exact hin))]
          clear ejk
          go_wp2_with (first | (go_at_call 76; refine (rin_any HWr.out HOr.out q (by rw [HEr.out]; exact hql) j hj).mono ?_; rintro e w1 ⟨rfl, hw1⟩; rw [hw1]; clear hw1))
          go_roundw
          case rel => exact ⟨j + 1, by omega, by go_num, ⟨uv1, by rw [HS'.out]; exact HWr.out⟩, HFr.out, HCr.out⟩
          case measure => simp [intOf]; omega
        · by_cases hcond : dn ≤ kk ∧ (d.mem k).knows j < n
          · obtain ⟨hc1, hc2⟩ := hcond
            obtain ⟨a, ha⟩ := Int.eq_ofNat_of_zero_le hkb.1
            rw [ha] at kj hc2
            have HS' : Hid (rProdTo d k (d.mem k) kk n dn (j + 1) = rAppends (rProdTo d k (d.mem k) kk n dn j) k j (a : Int)) := by
              show rProdTo d k (d.mem k) kk n dn (j + 1) = _
              rw [rProdTo, if_neg (by rw [HQ.out]; simp [ejk, hin]), if_neg (by omega), if_pos (by rw [ha]; exact ⟨hc1, hc2⟩), ha]
            clear ejk hkb ha
            go_wp2_with (first | (go_at_call 76; refine (rin_any HWr.out HOr.out q (by rw [HEr.out]; exact hql) j hj).mono ?_; rintro e w1 ⟨rfl, hw1⟩; rw [hw1]; clear hw1))
            refine (rappends_any HWr.out HOr.out.way k j hk a (by rw [HMr.out, HNN.out]; omega) (by rw [HMr.out, HNN.out]; exact hlen1)).mono ?_
            rintro e w2 ⟨rfl, ⟨uv2, hR2⟩, hF2⟩
            have HR2 : Hid (RRep w2 (Ext (Now S w) W) b (rAppends (rProdTo d k (d.mem k) kk n dn j) k j a) ev uv2) := hR2.mono fun i _ e => Ext.sub HFr.out.size i e
            have HF2 : Hid (Fr (Now S w) W w2) := HFr.out.trans hF2
            have HC2 : Hid (Copy w2 w.heap.size (d.mem k)) := HCr.out.same (hF2.block _ HCr.out.lt (fun e => e.elim (fun e => Nat.lt_irrefl _ e.2) (fun e => by have := HWC.out.lt; omega)))
            clear hR2 hF2
            go_wp2
            go_roundw
            case rel => exact ⟨j + 1, by omega, by go_num, ⟨uv2, by rw [HS'.out]; exact HR2.out⟩, HF2.out, HC2.out⟩
            case measure => simp [intOf]; omega
          · have HS' : Hid (rProdTo d k (d.mem k) kk n dn (j + 1) = rProdTo d k (d.mem k) kk n dn j) := by
              show rProdTo d k (d.mem k) kk n dn (j + 1) = _
              rw [rProdTo, if_neg (by rw [HQ.out]; simp [ejk, hin]), if_neg (by omega), if_neg hcond]
            clear ejk
            by_cases hc1 : dn ≤ kk
            · have hc2 : (n : Int) ≤ (d.mem k).knows j := by omega
              clear hcond
              go_wp2_with (first | (go_at_call 76; refine (rin_any HWr.out HOr.out q (by rw [HEr.out]; exact hql) j hj).mono ?_; rintro e w1 ⟨rfl, hw1⟩; rw [hw1]; clear hw1))
              go_roundw
              case rel => exact ⟨j + 1, by omega, by go_num, ⟨uv1, by rw [HS'.out]; exact HWr.out⟩, HFr.out, HCr.out⟩
              case measure => simp [intOf]; omega
            · clear hcond
              go_wp2_with (first | (go_at_call 76; refine (rin_any HWr.out HOr.out q (by rw [HEr.out]; exact hql) j hj).mono ?_; rintro e w1 ⟨rfl, hw1⟩; rw [hw1]; clear hw1))
              go_roundw
              case rel => exact ⟨j + 1, by omega, by go_num, ⟨uv1, by rw [HS'.out]; exact HWr.out⟩, HFr.out, HCr.out⟩
              case measure => simp [intOf]; omega
    · have : j = 5 := by omega
      subst this
      go_wp2_with fail
      go_ret3
      rw [HF.out, HFin.out]
      exact ⟨rfl, ⟨_, HWr.out.back HWB.out.size⟩, HWB.out.then HFr.out.now⟩
end
end Go.Proofs.Ythpjcmilfipbaaa
