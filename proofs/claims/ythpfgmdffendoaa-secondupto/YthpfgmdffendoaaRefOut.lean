/- My own text. Walks of package ledgerref: out, Drop, Twice, Messages. -/
import Derived.Test.YthpfgmdffendoaaRefSend
namespace Go.Proofs.Ythpfgmdffendoaa
set_option linter.unusedVariables false
set_option linter.unusedSimpArgs false
open Go.RowKit
section
variable {α : Type} (l : List α) (i : Nat)
def rgone (k : Nat) : List α := (l.take k).eraseIdx i
theorem rgone_zero : rgone l i 0 = [] := by simp [rgone]
theorem rgone_all (k : Nat) (hk : l.length ≤ k) : rgone l i k = l.eraseIdx i := by simp [rgone, List.take_of_length_le hk]
theorem rgone_le (k : Nat) : (rgone l i k).length ≤ k := by
  have h1 := List.length_eraseIdx_le (l.take k) i
  have h2 := List.length_take_le k l
  unfold rgone; omega
theorem rgone_at (hi : i < l.length) : rgone l i (i + 1) = rgone l i i := by
  unfold rgone
  rw [List.take_succ_eq_append_getElem hi, List.eraseIdx_append_of_length_le (by simp; omega), List.eraseIdx_of_length_le (l := l.take i) (by simp; omega)]
  simp [Nat.min_eq_left (Nat.le_of_lt hi)]
theorem rgone_other (k : Nat) (x : α) (hx : l[k]? = some x) (hki : k ≠ i) : rgone l i (k + 1) = rgone l i k ++ [x] := by
  rw [List.getElem?_eq_some_iff] at hx
  obtain ⟨hk, rfl⟩ := hx
  unfold rgone
  rw [List.take_succ_eq_append_getElem hk]
  rcases Nat.lt_or_ge i k with h | h
  · rw [List.eraseIdx_append_of_lt_length (by simp; omega)]
  · rw [List.eraseIdx_append_of_length_le (by simp; omega), List.eraseIdx_of_length_le (l := l.take k) (by simp; omega), List.eraseIdx_of_length_le (by simp; omega)]
end
theorem frTR (T : Nat) (w : World) (o : Nat) (v : Value) : Fr (fun k => k = T) w (w.setCell ⟨T, o, none⟩ v) := Fr.setCell (S := fun k => k = T) w ⟨T, o, none⟩ rfl v
def noLet : Value := .agg #[.int .i64 0, .int .i64 0, .int .i64 0, .int .i64 0, .int .i64 0, .string ⟨#[]⟩]
def letVal (m : Msg) : Value := .agg #[.int .i64 m.kind, .int .i64 m.frm, .int .i64 m.to, .int .i64 m.epoch, .int .i64 m.n, .string (encB m.recs)]
section
variable {w : World} {S : Nat → Prop} {b : Nat} {d : Wd} {ev uv : Value}
theorem RRep.listed {w1 w' : World} (h : RRep w S b d ev uv) (hb1 : Below w.heap.size w w1) (v' : Value) (way' : List Msg)
    (hgg : ∀ g, v'.ownBlock = some g → w.heap.size ≤ g) (hown : w1.ownsRow 0 129 6 v' way'.length (letCells way')) (T : Nat) (hT : w.heap.size ≤ T) (hTg : v'.ownBlock ≠ some T)
    (hfr : Fr (fun k => k = T) (w1.setCell ⟨b, 77, none⟩ v') w') :
    RRep w' (Ext S w) b { d with way := way' } ev v' ∧ Fr S w w' := by
  have hb := h.lt
  obtain ⟨cs, hbl, hc⟩ := h.blk
  have hz : (w1.setCell ⟨b, 77, none⟩ v').heap.size = w1.heap.size := by simp [World.setCell]
  have hold : ∀ k, k < w.heap.size → k ≠ b → w'.heap[k]? = w.heap[k]? := fun k hk hkb => by
    rw [hfr.block k (by rw [hz]; have := hb1.size; omega) (fun e => by have : k = T := e; omega), Below.heap_setCell _ _ _ _ hkb, hb1.block k hk]
  refine ⟨?_, ?_⟩
  · exact { blk := ⟨_, by
              rw [hfr.block b (by rw [hz]; have := hb1.size; omega) (fun e => by have : b = T := e; omega)]
              exact heap_setCell_at _ _ _ _ _ _ _ ((hb1.block b hb).trans hbl), by
                refine hc.set 77 v' (by omega) ?_ ?_ ?_ ?_ ?_ ?_ ?_ ?_ ?_ ?_
                all_goals first | (intro i j hi hj; rw [if_neg (by omega)]) | (intro i hi; rw [if_neg (by omega)]) | rfl⟩
            inb := Or.inl h.inb
            eras := ownsRow_same h.eras fun g hg hl => hold g hl (by
              obtain ⟨cu, hcu⟩ := ownsRow_block h.eras hg
              exact ne_of_type hcu hbl (by decide))
            eraS := fun g hg => Or.inl (h.eraS g hg)
            way := ownsRow_same hown fun g hg hl => by
              have := hgg g hg
              rw [hfr.block g (by rw [hz]; exact hl) (fun e => hTg (by rw [hg]; exact congrArg some e))]
              exact Below.heap_setCell _ _ _ _ (fun e => by have : g = b := e; omega)
            wayS := fun g hg => Or.inr (hgg g hg) }
  · refine ((Fr.below hb1).then (Fr.setCell w1 ⟨b, 77, none⟩ h.inb v')).trans (hfr.mono fun k hk => ?_)
    subst hk; exact Or.inr hT

set_option maxHeartbeats 800000 in
theorem rout_nil (i : Int) (w : World) :
    Calls Try.prog 80 #[.pointer none, .int .i64 i] w fun e w' => e = .returned (.tuple #[noLet, .int .i64 1]) ∧ Below w.heap.size w w' := by
  go_enter Try.func80, Try.ntmps80
  go_wp2
  exact bodyPost_ret (v := .tuple #[.agg #[.int .i64 0, .int .i64 0, .int .i64 0, .int .i64 0, .int .i64 0, .string ⟨#[]⟩], .int .i64 1]) (by simp [results, Try.results80, go_sem]) rfl ⟨rfl, (Below.refl _ _).alloc (Nat.le_refl _) _⟩

set_option maxHeartbeats 800000 in
theorem rout_bad (h : RRep w S b d ev uv) (i : Int) (hi : rUnder d i = false) :
    Calls Try.prog 80 #[.pointer (some ⟨b, 0, none⟩), .int .i64 i] w fun e w' => e = .returned (.tuple #[noLet, .int .i64 13]) ∧ Below w.heap.size w w' := by
  have hw := h.cWay
  have hb := h.lt
  obtain ⟨ao, cap, hu, _, _, _⟩ := ownsRow_shape h.way
  subst hu
  have hcase : i < 0 ∨ (0 ≤ i ∧ (d.way.length : Int) ≤ i) := by
    simp [rUnder] at hi
    omega
  clear h hi
  rcases hcase with h1 | ⟨h1, h2⟩
  all_goals
    go_enter Try.func80, Try.ntmps80
    go_wp2
    exact bodyPost_ret (v := .tuple #[.agg #[.int .i64 0, .int .i64 0, .int .i64 0, .int .i64 0, .int .i64 0, .string ⟨#[]⟩], .int .i64 13]) (by simp [results, Try.results80, go_sem]) rfl ⟨rfl, (Below.refl _ _).alloc (Nat.le_refl _) _⟩

set_option maxHeartbeats 3200000 in
set_option maxRecDepth 100000 in
theorem rout_any (h : RRep w S b d ev uv) (hway : d.way.length ≤ 50) (i : Nat) (x : Msg) (hx : d.way[i]? = some x) :
    Calls Try.prog 80 #[.pointer (some ⟨b, 0, none⟩), .int .i64 i] w fun e w' =>
      e = .returned (.tuple #[letVal x, .int .i64 0]) ∧ (∃ uv', RRep w' (Ext S w) b (rOut d i) ev uv') ∧ Fr S w w' := by
  have hi : i < d.way.length := (List.getElem?_eq_some_iff.1 hx).1
  have hw := h.cWay
  have hb := h.lt
  obtain ⟨ao, cap, hu, hcap, hblk, hpos⟩ := ownsRow_shape h.way
  obtain ⟨g, rfl⟩ := hpos (by omega)
  subst hu
  obtain ⟨c0, c1, c2, c3, c4, c5⟩ := let_cells h.way i x hx
  have hgl := ownsRow_lt h.way (g := g) rfl
  have H : Hid (RRep w S b d ev (.slice (some ⟨g, 0, none⟩) d.way.length cap)) := h
  have HW : Hid (w.ownsRow 0 129 6 (.slice (some ⟨g, 0, none⟩) d.way.length cap) d.way.length (letCells d.way)) := h.way
  clear h hx hcap hblk hpos
  obtain ⟨i0, hi0, hz0, hz1, hz2⟩ := info_parts infoLet
  have hii : (i : Int) < (d.way.length : Int) := by omega
  have hd1 : decide (d.way.length ≤ i) = false := decide_eq_false (by omega)
  have hd2 : decide ((i : Int) < 0) = false := decide_eq_false (by omega)
  go_enter Try.func80, Try.ntmps80
  go_wp2_with fail
  refine wp_genR (fun W => W.heap.size = w.heap.size + 2 ∧ Below w.heap.size w W ∧ W.heap[w.heap.size]? = some (.cells #[.int .i64 0, .int .i64 0, .int .i64 0, .int .i64 0, .int .i64 0, .string ⟨#[]⟩] 129) ∧
      W.heap[w.heap.size + 1]? = some (.cells #[.int .i64 x.kind, .int .i64 x.frm, .int .i64 x.to, .int .i64 x.epoch, .int .i64 x.n, .string (encB x.recs)] 129)) ⟨by simp, ((Below.refl _ _).alloc (Nat.le_refl _) _).alloc (by simp) _, heap_alloc2_old w _ _, heap_alloc2_new w _ _⟩ ?_
  rintro W ⟨hWs, hWB, hW0, hW1⟩
  have HWs : Hid (W.heap.size = w.heap.size + 2) := hWs
  have HWo : Hid (Below w.heap.size w W) := hWB
  have HW0 : Hid (W.heap[w.heap.size]? = some (.cells #[.int .i64 0, .int .i64 0, .int .i64 0, .int .i64 0, .int .i64 0, .string ⟨#[]⟩] 129)) := hW0
  have HW1 : Hid (W.heap[w.heap.size + 1]? = some (.cells #[.int .i64 x.kind, .int .i64 x.frm, .int .i64 x.to, .int .i64 x.epoch, .int .i64 x.n, .string (encB x.recs)] 129)) := hW1
  clear hWs hWB hW0 hW1 c0 c1 c2 c3 c4 c5 hw
  go_loopw [7, 8] (fun v t wr => ∃ k : Nat, k ≤ d.way.length ∧ t = .int .i64 k ∧
      wr.ownsRow (w.heap.size + 2) 129 6 v (rgone d.way i k).length (letCells (rgone d.way i k)) ∧ Below (w.heap.size + 2) W wr)
    (fun _ t _ => d.way.length - (intOf t).toNat)
  case atStart => exact ⟨0, Nat.zero_le _, rfl, by rw [rgone_zero]; exact World.ownsRow_nil _ _ _ _, Below.refl _ _⟩
  case round =>
    obtain ⟨k, hk, rfl, hown, hbel⟩ := hrel
    have hszr : w.heap.size + 2 ≤ wr.heap.size := by have := hbel.size; have := HWs.out; omega
    have hgone := rgone_le d.way i k
    have hRw : RRep wr S b d ev (.slice (some ⟨g, 0, none⟩) d.way.length cap) := H.out.same fun k' _ hk' => by rw [hbel.block k' (by omega), HWo.out.block k' hk']
    have cw := hRw.cWay
    have fw := hRw.free 77
    have hwr := hRw.way
    have HO : Hid (wr.ownsRow (w.heap.size + 2) 129 6 u7 (rgone d.way i k).length (letCells (rgone d.way i k))) := hown
    have HB : Hid (Below (w.heap.size + 2) W wr) := hbel
    have hbr : b < wr.heap.size := hRw.lt
    clear hRw hown hbel
    by_cases hkn : k < d.way.length
    · have hy : d.way[k]? = some d.way[k] := by simp [hkn]
      obtain ⟨c0, c1, c2, c3, c4, c5⟩ := let_cells hwr k _ hy
      have HY : Hid (d.way[k]? = some d.way[k]) := hy
      clear hwr hy
      generalize d.way[k] = y at c0 c1 c2 c3 c4 c5 HY
      have hglr : g < wr.heap.size := by omega
      by_cases hki : k = i
      · have b1 : ((k : Int) != (i : Int)) = false := by simp [hki]
        have HG : Hid (rgone d.way i (k + 1) = rgone d.way i k) := by show rgone d.way i (k + 1) = _; subst hki; exact rgone_at d.way k hkn
        clear hki
        go_wp2
        go_roundw
        case rel => exact ⟨k + 1, by omega, by go_num, by rw [HG.out]; exact HO.out, HB.out⟩
        case measure => simp [intOf]; omega
      · have b1 : ((k : Int) != (i : Int)) = true := by simp; omega
        have HG : Hid (rgone d.way i (k + 1) = rgone d.way i k ++ [y]) := rgone_other d.way i k y HY.out hki
        have hnews := letRow_one y
        clear hki
        go_wp2_with (first | (at_builtin; refine wpList_append_own _ rfl _ _ 103 rfl (w.heap.size + 2) 129 i0 _ 6 56 Try.underlying103 hi0 hz0 hz1 hz2 rfl (by omega) u7 (rgone d.way i k).length (letCells (rgone d.way i k)) rfl (HO.out.alloc _) ⟨wr.heap.size, 0, none⟩ 1 1 (letRow y) rfl rfl (World.news_of_block (cs := (letRow y).toArray) (t := 129) (fr := (0, 0)) (heap_alloc_new wr _)) hnews (by unfold maxLen; omega) (by omega) (by simp; omega) ?_))
        intro v2 w2 hown2 hgrow2 hx2
        clear hx2
        have HO2 : Hid _ := hown2
        have HG2 : Hid _ := hgrow2
        clear hown2 hgrow2
        go_wp2
        go_roundw
        case rel =>
          refine ⟨k + 1, by omega, by go_num, ?_, ?_⟩
          · have e2 : letCells [y] = letRow y := by simp [letCells]
            rw [HG.out, letCells_append, e2, List.length_append]
            exact HO2.out
          · exact (HB.out.alloc hszr _).grown HG2.out (by simp; omega) (fun q hq => ((HO.out.lt q hq).1))
        case measure => simp [intOf]; omega
    · have : k = d.way.length := by omega
      subst this
      have hG := rgone_all d.way i d.way.length (Nat.le_refl _)
      have hown' := HO.out
      rw [hG] at hown'
      obtain ⟨vo, vcap, rfl, _, _, _⟩ := ownsRow_shape hown'
      have z : ∀ j, wr.cell? ⟨w.heap.size, j, none⟩ = (#[.int .i64 0, .int .i64 0, .int .i64 0, .int .i64 0, .int .i64 0, .string ⟨#[]⟩] : Array Value)[j]? := fun j => cell_of_row _ _ _ _ _ (0, 0) ((HB.out.block _ (by omega)).trans HW0.out)
      have m : ∀ j, wr.cell? ⟨w.heap.size + 1, j, none⟩ = (#[.int .i64 x.kind, .int .i64 x.frm, .int .i64 x.to, .int .i64 x.epoch, .int .i64 x.n, .string (encB x.recs)] : Array Value)[j]? := fun j => cell_of_row _ _ _ _ _ (0, 0) ((HB.out.block _ (by omega)).trans HW1.out)
      have zf : ∀ j, wr.frozen? ⟨w.heap.size, j, none⟩ = false := fun j => by simp [World.frozen?, (HB.out.block _ (by omega)).trans HW0.out]
      have z0 := z 0; have z1 := z 1; have z2 := z 2; have z3 := z 3; have z4 := z 4; have z5 := z 5
      have m0 := m 0; have m1 := m 1; have m2 := m 2; have m3 := m 3; have m4 := m 4; have m5 := m 5
      have f0 := zf 0; have f1 := zf 1; have f2 := zf 2; have f3 := zf 3; have f4 := zf 4; have f5 := zf 5
      simp at z0 z1 z2 z3 z4 z5 m0 m1 m2 m3 m4 m5
      clear z m zf
      have HOw : Hid (wr.ownsRow (w.heap.size + 2) 129 6 (.slice vo (d.way.eraseIdx i).length vcap) (d.way.eraseIdx i).length (letCells (d.way.eraseIdx i))) := hown'
      clear hown' HO hwr
      have nb0 : ¬ b = w.heap.size := by omega
      have nb1 : ¬ b = w.heap.size + 1 := by omega
      go_wp2
      refine bodyPost_ret (v := .tuple #[.agg #[.int .i64 x.kind, .int .i64 x.frm, .int .i64 x.to, .int .i64 x.epoch, .int .i64 x.n, .string (encB x.recs)], .int .i64 0]) (by simp [results, Try.results80, go_sem, *]) rfl ⟨rfl, ?_⟩
      have hbw : Below w.heap.size w wr := HWo.out.trans (HB.out.mono (by omega))
      have R := H.out.listed hbw (.slice vo (d.way.eraseIdx i).length vcap) (d.way.eraseIdx i) (fun q hq => by have := (HOw.out.lt q hq).1; omega) ⟨HOw.out.1, orR HOw.out.2 fun ⟨g', cap', cur, e, _, r⟩ => ⟨g', cap', cur, e, Nat.zero_le _, r⟩⟩ w.heap.size (Nat.le_refl _) (fun e => by have := (HOw.out.lt _ e).1; omega)
        ((((((frTR _ _ 0 (.int .i64 x.kind)).then (frTR _ _ 1 (.int .i64 x.frm))).then (frTR _ _ 2 (.int .i64 x.to))).then (frTR _ _ 3 (.int .i64 x.epoch))).then (frTR _ _ 4 (.int .i64 x.n))).then (frTR _ _ 5 (.string (encB x.recs))))
      exact ⟨⟨_, R.1⟩, R.2⟩
end
end Go.Proofs.Ythpfgmdffendoaa
