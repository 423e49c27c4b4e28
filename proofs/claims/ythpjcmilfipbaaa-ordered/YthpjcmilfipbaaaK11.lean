/- My own text: several texts in one. -/
import Derived.Test.YthpjcmilfipbaaaK10
namespace Go.Proofs.Ythpjcmilfipbaaa
set_option linter.unusedVariables false
set_option linter.unusedSimpArgs false
open Go.RowKit
/-- What was read of the first j nodes. -/
structure AllRep (w : World) (ab : Nat) (d : Wd) (j : Nat) (vs : Nat → Value) : Prop where
  blk : ∃ cs, w.heap[ab]? = some (.cells cs 54 (0, 0)) ∧ cs.size = 5 ∧ ∀ i, i < 5 → cs[i]? = some (vs i)
  rows : ∀ i, i < j → w.ownsRow 0 36 3 (vs i) (tellsL d i).length (recCells (tellsL d i))
theorem AllRep.cell {w : World} {ab : Nat} {d : Wd} {j : Nat} {vs : Nat → Value} (h : AllRep w ab d j vs) (i : Nat) (hi : i < 5) : w.cell? ⟨ab, i, none⟩ = some (vs i) ∧ w.frozen? ⟨ab, i, none⟩ = false := by
  obtain ⟨cs, h1, h2, h3⟩ := h.blk
  exact ⟨(cell_of_row _ _ _ _ _ _ h1).trans (h3 i hi), by simp [World.frozen?, h1]⟩
theorem AllRep.lt {w : World} {ab : Nat} {d : Wd} {j : Nat} {vs : Nat → Value} (h : AllRep w ab d j vs) : ab < w.heap.size := by
  obtain ⟨cs, h1, _⟩ := h.blk
  exact (Array.getElem?_eq_some_iff.1 h1).1
theorem AllRep.below {w w1 : World} {ab : Nat} {d : Wd} {j : Nat} {vs : Nat → Value} (h : AllRep w ab d j vs) (hb : Below w.heap.size w w1) : AllRep w1 ab d j vs := by
  obtain ⟨cs, h1, h2⟩ := h.blk
  exact ⟨⟨cs, by rw [hb.block ab h.lt]; exact h1, h2⟩, fun i hi => ownsRow_same (h.rows i hi) fun g _ hl => hb.block g hl⟩
section
variable {R : World → (Nat → Prop) → Nat → Wd → Prop}
structure AllSt (R : World → (Nat → Prop) → Nat → Wd → Prop) (B cb ab : Nat) (d : Wd) (g : Gh) (j : Nat) (vs : Nat → Value) (own : Nat → Prop) (w : World) : Prop where
  one : One R w own cb d
  inv : Inv d g
  all : AllRep w ab d j vs
  low : ∀ k, k < B → own k
  oab : own ab
  orow : ∀ i, i < j → ∀ q, (vs i).ownBlock = some q → own q
  hB : B ≤ ab
/-- One node more was read, and its list is stored. -/
theorem AllSt.store {fn : Cl → Nat} {fm fw : Nat} (s : Side R fn fm fw) {B cb ab : Nat} {d : Wd} {g : Gh} {j : Nat} {vs : Nat → Value} {own : Nat → Prop} {w w2 : World} (h : AllSt R B cb ab d g j vs own w) (hj : j < 5) {v : Value} {b0 : Nat}
    (hv : w2.ownsRow b0 36 3 v (tellsL d j).length (recCells (tellsL d j))) (hO : One R w2 (OwnV own v) cb d) (hF : Fr (fun k => ¬ own k) w w2) :
    AllSt R B cb ab d g (j + 1) (upd vs j v) (OwnV own v) (w2.setCell ⟨ab, j, none⟩ v) ∧ Below B w (w2.setCell ⟨ab, j, none⟩ v) := by
  obtain ⟨cs, h1, h2, h3⟩ := h.all.blk
  have hab2 : w2.heap[ab]? = some (.cells cs 54 (0, 0)) := by rw [hF.block ab h.all.lt fun e => e h.oab]; exact h1
  have hset : ∀ q, q ≠ ab → (w2.setCell ⟨ab, j, none⟩ v).heap[q]? = w2.heap[q]? := fun q hq => Below.heap_setCell _ _ _ _ hq
  have hBw : B ≤ w.heap.size := by have := h.all.lt; have := h.hB; omega
  refine ⟨{ one := hO.mine s (Fr.setCell _ _ (Or.inl h.oab) _), inv := h.inv, all := ⟨⟨_, heap_setCell_at _ _ _ _ _ _ _ hab2, by simp [h2], fun i hi => ?_⟩, fun i hi => ?_⟩, low := fun k hk => Or.inl (h.low k hk), oab := Or.inl h.oab, orow := fun i hi q hq => ?_, hB := h.hB }, ?_⟩
  · rw [Array.getElem?_setIfInBounds]
    by_cases e : j = i
    · subst e; rw [if_pos rfl, if_pos (by omega), upd_same]
    · rw [if_neg e, h3 i hi, upd_other _ _ _ _ (fun q => e q.symm)]
  · by_cases e : i = j
    · subst e
      rw [upd_same]
      exact ownsRow_same (ownsRow_zeroK hv) fun q hq _ => hset q fun e2 => by
        subst e2
        obtain ⟨cu, hcu⟩ := ownsRow_block hv hq
        exact ne_of_type hcu hab2 (by decide) rfl
    · rw [upd_other _ _ _ _ e]
      have hr := h.all.rows i (by omega)
      have hr2 : w2.ownsRow 0 36 3 (vs i) (tellsL d i).length (recCells (tellsL d i)) := ownsRow_same hr fun q hq hl => hF.block q hl fun x => x (h.orow i (by omega) q hq)
      exact ownsRow_same hr2 fun q hq _ => hset q fun e2 => by
        subst e2
        obtain ⟨cu, hcu⟩ := ownsRow_block hr2 hq
        exact ne_of_type hcu hab2 (by decide) rfl
  · by_cases e : i = j
    · subst e; rw [upd_same] at hq; exact Or.inr hq
    · rw [upd_other _ _ _ _ e] at hq; exact Or.inl (h.orow i (by omega) q hq)
  · have b1 : Below B w w2 := ⟨hF.os, hF.tape, hF.output, hF.size, fun k hk => hF.block k (Nat.lt_of_lt_of_le hk hBw) fun x => x (h.low k hk)⟩
    exact Below.setCell (p := ⟨ab, j, none⟩) b1 h.hB v
theorem AllSt.quiet {fn : Cl → Nat} {fm fw : Nat} (s : Side R fn fm fw) {B cb ab : Nat} {d : Wd} {g : Gh} {j : Nat} {vs : Nat → Value} {own : Nat → Prop} {w w2 : World} (h : AllSt R B cb ab d g j vs own w) (hb : Below w.heap.size w w2) : AllSt R B cb ab d g j vs own w2 :=
  ⟨h.one.quiet s hb, h.inv, h.all.below hb, h.low, h.oab, h.orow, h.hB⟩
set_option maxHeartbeats 3200000 in
set_option maxRecDepth 100000 in
theorem kordered_any (s : Side R fnPrg 41 36) (w : World) (ao : Option Addr) (n cap : Nat) (x : Nat → Nat → Int) (hn : n ≤ 4000000000000) (hx : ∀ i j, Fits (x i j)) (hs : KScript w ao n x) :
    Calls Try.prog 11 #[.slice ao n cap] w fun e w' => e = .returned (.bool true) ∧ Below w.heap.size w w' := by
  have HSI := hidK s
  have HS := hidK hs
  have HX := hidK hx
  clear s hs hx
  go_enter Try.func11, Try.ntmps11
  go_wp2_with fail
  refine (kbegun_any HSI.out w).mono ?_
  rintro e w1 ⟨cb, rfl, h1, hB1⟩
  have H1 := hidK h1
  have HB1 := hidK hB1
  have HF := hidK (kfirst_any HSI.out h1)
  clear h1 hB1
  go_wp2_with fail
  refine HF.out.mono ?_
  rintro e w2 ⟨rfl, h2, hF2⟩
  have HB2 := hidK (HB1.out.trans (old_below HB1.out.size hF2))
  have hs1 : w.heap.size ≤ w2.heap.size := HB2.out.size
  have HBA := hidK ((Below.refl w2.heap.size w2).alloc (Nat.le_refl _) (.cells Try.zeroCells48 48))
  have HBV := hidK (HB2.out.trans (HBA.out.mono hs1))
  have H2 := hidK (h2.more HSI.out HBA.out (Own w.heap.size w2.heap.size) fun k hk => by
    rcases hk with hk | hk
    · exact Or.inl hk
    · exact Or.inr ⟨by omega, by simp; omega⟩)
  have HBk := hidK (BRep.none w2)
  clear h2 hF2 HF H1 HB1 HB2
  go_wp2_with fail
  refine wp_genR (fun V => Kp R w.heap.size cb w2.heap.size V ∧ Below w.heap.size w V) ⟨by
    obtain ⟨g, hg, _⟩ := dFirst_inv
    exact ⟨dFirst, g, tbNone, H2.out, HBk.out, hg, bookNone _ _, hs1⟩, HBV.out⟩ ?_
  rintro V ⟨hV, hVB⟩
  clear H2 HBA HBV HBk hs1
  have HV := hidK hV
  have HVB := hidK hVB
  clear hV hVB
  generalize w2.heap.size = bb at *
  go_loopw [6] (fun t wr => ∃ k : Nat, k ≤ n ∧ t = .int .i64 k ∧ Kp R w.heap.size cb bb wr ∧ Below w.heap.size w wr) (fun t _ => n - (intOf t).toNat)
  case atStart => exact ⟨0, Nat.zero_le _, rfl, HV.out, HVB.out⟩
  case round =>
    obtain ⟨k, hk, rfl, hK, hB⟩ := hrel
    have HK := hidK hK
    have HB := hidK hB
    clear hK hB HV HVB
    by_cases hkn : k < n
    · obtain ⟨sb, so, rfl, hsb, hcells⟩ := HS.out (by omega)
      have hc : ∀ j, j < 5 → wr.cell? ⟨sb, so + k * 5 + j, none⟩ = some (.int .i64 (x k j)) := fun j hj => (HB.out.cell hsb).trans (hcells k j hkn hj)
      have c0 := hc 0 (by omega); have c1 := hc 1 (by omega); have c2 := hc 2 (by omega); have c3 := hc 3 (by omega); have c4 := hc 4 (by omega)
      simp only [Nat.add_zero] at c0
      have f0 := HX.out k 0
      have f1 := HX.out k 1
      have f2 := HX.out k 2
      have f3 := HX.out k 3
      have f4 := HX.out k 4
      clear hc hcells
      generalize x k 0 = x0 at *
      generalize x k 1 = x1 at *
      generalize x k 2 = x2 at *
      generalize x k 3 = x3 at *
      generalize x k 4 = x4 at *
      have HC := hidK (kstep_any HSI.out HK.out x0 x1 x2 x3 x4 ⟨f0.1, f0.2⟩ ⟨f1.1, f1.2⟩ ⟨f2.1, f2.2⟩ ⟨f3.1, f3.2⟩ ⟨f4.1, f4.2⟩)
      unfold kopVal at HC
      have hki0 : (0 : Int) ≤ (k : Int) := by omega
      have hki1 : (k : Int) < (n : Int) := by omega
      go_wp2_with (first | (go_at_call 25; refine HC.out.mono ?_; rintro e w3 ⟨rfl, hK2, hB2⟩; have HK2 := hidK hK2; have HB2 := hidK hB2; clear hK2 hB2))
      go_roundw
      case rel => exact ⟨k + 1, by omega, by go_num, HK2.out, HB.out.trans HB2.out⟩
      case measure => simp [intOf]; omega
    · have : k = n := by omega
      subst this
      go_wp2_with fail
      obtain ⟨d, g, tb, hKp⟩ := HK.out
      have hle := hKp.le
      have HSt := hidK (show AllSt R w.heap.size cb wr.heap.size d g 0 (fun _ => .slice none 0 0) (fun k => Own w.heap.size bb k ∨ k = wr.heap.size) (wr.alloc (.cells #[.slice none 0 0, .slice none 0 0, .slice none 0 0, .slice none 0 0, .slice none 0 0] 54)) from
        { one := hKp.one.more HSI.out ((Below.refl _ wr).alloc (Nat.le_refl _) _) _ fun k hk => by
            rcases hk with hk | hk
            · exact Or.inl hk
            · exact Or.inr ⟨by omega, by simp; omega⟩
          inv := hKp.inv
          all := ⟨⟨_, heap_alloc_new wr _, rfl, fun i hi => by
            match i, hi with
            | 0, _ => rfl
            | 1, _ => rfl
            | 2, _ => rfl
            | 3, _ => rfl
            | 4, _ => rfl⟩, fun i hi => by omega⟩
          low := fun k hk => Or.inl (Or.inl hk), oab := Or.inr rfl, orow := fun i hi => by omega, hB := hle })
      have HBS := hidK (HB.out.alloc hle (.cells #[.slice none 0 0, .slice none 0 0, .slice none 0 0, .slice none 0 0, .slice none 0 0] 54))
      refine wp_genR (fun V => ∃ vs own, AllSt R w.heap.size cb wr.heap.size d g 0 vs own V ∧ Below w.heap.size w V) ⟨_, _, HSt.out, HBS.out⟩ ?_
      intro V hV
      have HVV := hidK hV
      clear hV HSt HBS hKp hle HK HB
      generalize wr.heap.size = ab at *
      go_loopw [8] (fun t wr => ∃ j : Nat, j ≤ 5 ∧ t = .int .i64 j ∧ ∃ vs own, AllSt R w.heap.size cb ab d g j vs own wr ∧ Below w.heap.size w wr) (fun t _ => 5 - (intOf t).toNat)
      case atStart => exact ⟨0, Nat.zero_le _, rfl, HVV.out⟩
      case round =>
        obtain ⟨j, hj5, rfl, vs, own, hSt, hBl⟩ := hrel
        have HSt := hidK hSt
        have HBl := hidK hBl
        have hok := hSt.one.ok
        have HOK := hidK hok
        clear HVV hSt hBl hok
        by_cases hj : j < 5
        · have HR := hidK (kread_any HSI.out HSt.out.one j hj)
          have hji0 : (0 : Int) ≤ (j : Int) := by omega
          have hji1 : (j : Int) < 5 := by omega
          go_wp2_with (first | (go_at_call 26; refine HR.out.mono ?_; rintro e w3 ⟨v, rfl, hv, hO3, hF3⟩; obtain ⟨ao3, cap3, rfl, _⟩ := ownsRow_shape hv; have HNx := hidK (HSt.out.store HSI.out hj hv hO3 hF3); have HV3 := hidK hv; obtain ⟨cs, hcs, hcz, hcc⟩ := HSt.out.all.blk; have hab3 := (hF3.block ab HSt.out.all.lt fun e => e HSt.out.oab).trans hcs; have a0 : w3.cell? ⟨ab, j, none⟩ = some (vs j) := (cell_of_row _ _ _ _ _ _ hab3).trans (hcc j hj); have z0 : w3.frozen? ⟨ab, j, none⟩ = false := (by simp [World.frozen?, hab3]); have hab3l : ab < w3.heap.size := (Array.getElem?_eq_some_iff.1 hab3).1; clear hv hO3 hF3 hcs hcz hcc hab3) | (go_at_call 27; refine (kturn_any (B := 0) (l := tellsL d j) (tellsL_len HOK.out hj) (tellsL_turn HSt.out.inv hj) (by have := HNx.out.1.all.rows j (by omega); rw [upd_same] at this; exact this)).mono ?_; rintro e w4 ⟨rfl, hB4⟩; have HB4 := hidK hB4; clear hB4))
          refine wp_genR (fun V => ∃ vs own, AllSt R w.heap.size cb ab d g (j + 1) vs own V ∧ Below w.heap.size w V) ⟨_, _, HNx.out.1.quiet HSI.out HB4.out, (HBl.out.trans HNx.out.2).trans (HB4.out.mono (by have := HBl.out.size; have := HNx.out.2.size; omega))⟩ ?_
          rintro U ⟨vs2, own2, hU, hUB⟩
          have HU := hidK hU
          have HUB := hidK hUB
          clear hU hUB HNx HV3 HSt HBl HB4 a0 z0 HR
          go_loopw [9] (fun t wr => ∃ i : Nat, i ≤ j ∧ t = .int .i64 i ∧ Below U.heap.size U wr) (fun t _ => j - (intOf t).toNat)
          case atStart => exact ⟨0, Nat.zero_le _, rfl, Below.refl _ _⟩
          case round =>
            obtain ⟨i, hij, rfl, hBi⟩ := hrel
            have HBi := hidK hBi
            clear hBi
            by_cases hi : i < j
            · have hii : (i : Int) < (j : Int) := by omega
              go_wp2_with fail
              refine wp_genR (fun W => Below U.heap.size U W) HBi.out ?_
              intro W hW
              have HW := hidK hW
              clear hW HBi
              go_loopw [10] (fun t wr => ∃ q : Nat, q ≤ (tellsL d j).length ∧ q ≤ (tellsL d i).length ∧ t = .int .i64 q ∧ Below U.heap.size U wr) (fun t _ => (tellsL d j).length - (intOf t).toNat)
              case atStart => exact ⟨0, Nat.zero_le _, Nat.zero_le _, rfl, HW.out⟩
              case round =>
                obtain ⟨q, hqj, hqi, rfl, hBq⟩ := hrel
                have HBq := hidK hBq
                have HA := hidK (HU.out.all.below hBq)
                clear hBq HW
                have c0 := (HA.out.cell j (by omega)).1
                have c1 := (HA.out.cell i (by omega)).1
                have rj := HA.out.rows j (by omega)
                have ri := HA.out.rows i (by omega)
                obtain ⟨aoj, capj, hvj, _, _, hpj⟩ := ownsRow_shape rj
                obtain ⟨aoi, capi, hvi, _, _, hpi⟩ := ownsRow_shape ri
                rw [hvj] at c0 rj
                rw [hvi] at c1 ri
                have hl1 := tellsL_len HOK.out hj
                have hl2 := tellsL_len HOK.out (show i < 5 by omega)
                have hii0 : (0 : Int) ≤ (i : Int) := by omega
                have hii5 : (i : Int) < 5 := by omega
                by_cases hq1 : q < (tellsL d j).length
                · by_cases hq2 : q < (tellsL d i).length
                  · obtain ⟨gj, rfl⟩ := hpj (by omega)
                    obtain ⟨gi, rfl⟩ := hpi (by omega)
                    obtain ⟨r, hr⟩ : ∃ r, (tellsL d j)[q]? = some r := ⟨_, List.getElem?_eq_getElem hq1⟩
                    obtain ⟨r2, hr2⟩ : ∃ r, (tellsL d i)[q]? = some r := ⟨_, List.getElem?_eq_getElem hq2⟩
                    have heq := tellsL_same HU.out.inv hj (show i < 5 by omega) hr hr2
                    subst heq
                    obtain ⟨k0, k1, k2⟩ := rec_cells rj q r hr
                    obtain ⟨m0, m1, m2⟩ := rec_cells ri q r hr2
                    have hqq1 : (q : Int) < ((tellsL d j).length : Int) := by omega
                    have hqq2 : (q : Int) < ((tellsL d i).length : Int) := by omega
                    have hqq0 : (0 : Int) ≤ (q : Int) := by omega
                    clear hr hr2 hpj hpi rj ri hvj hvi
                    generalize (tellsL d j).length = lj at *
                    generalize (tellsL d i).length = li at *
                    go_wp2_with fail
                    go_quiet (fail)
                    go_wp2
                    go_roundw
                    case rel => exact ⟨q + 1, by omega, by omega, by go_num, HBq.out.trans ⟨rfl, rfl, rfl, Nat.le_refl _, fun _ _ => rfl⟩⟩
                    case measure => simp [intOf]; omega
                  · have hqq1 : (q : Int) < ((tellsL d j).length : Int) := by omega
                    have hqq2 : ¬ (q : Int) < ((tellsL d i).length : Int) := by omega
                    clear hpj hpi rj ri hvj hvi
                    go_wp2
                    go_roundw
                    case rel => exact ⟨i + 1, by omega, by go_num, HBq.out⟩
                    case measure => simp [intOf]; omega
                · have hqq1 : ¬ (q : Int) < ((tellsL d j).length : Int) := by omega
                  clear hpj hpi rj ri hvj hvi
                  go_wp2
                  go_roundw
                  case rel => exact ⟨i + 1, by omega, by go_num, HBq.out⟩
                  case measure => simp [intOf]; omega
            · have : i = j := by omega
              subst this
              go_wp2
              go_roundw
              case rel => exact ⟨i + 1, by omega, by go_num, vs2, own2, HU.out.quiet HSI.out HBi.out, HUB.out.trans (HBi.out.mono HUB.out.size)⟩
              case measure => simp [intOf]; omega
        · have : j = 5 := by omega
          subst this
          go_wp2
          go_ret
          exact ⟨rfl, HBl.out⟩
end
end Go.Proofs.Ythpjcmilfipbaaa
