/- My own text: several texts in one. -/
import Derived.Test.YthpjcmilfipbaaaR2
import Derived.Test.YthpjcmilfipbaaaR3
import Derived.BigRegion
namespace Go.Proofs.Ythpjcmilfipbaaa
set_option linter.unusedVariables false
set_option linter.unusedSimpArgs false
open Go.RowKit
section
variable {α : Type} (l : List α) (i : Nat)
def rgone (k : Nat) : List α := (l.take k).eraseIdx i
theorem rgone_zero : rgone l i 0 = [] := by simp [rgone]
theorem rgone_all (k : Nat) (hk : l.length ≤ k) : rgone l i k = l.eraseIdx i := by simp [rgone, List.take_of_length_le hk]
theorem rgone_le (k : Nat) : (rgone l i k).length ≤ k := by
  have h1 := List.length_eraseIdx_le (l.take k) i
  have h2 := List.length_take_le k l
  unfold rgone; omega
theorem rgone_at (hi : i < l.length) : rgone l i (i + 1) = rgone l i i := by
  unfold rgone
  rw [List.take_succ_eq_append_getElem hi, List.eraseIdx_append_of_length_le (by simp; omega), List.eraseIdx_of_length_le (l := l.take i) (by simp; omega)]
  simp [Nat.min_eq_left (Nat.le_of_lt hi)]
theorem rgone_other (k : Nat) (x : α) (hx : l[k]? = some x) (hki : k ≠ i) : rgone l i (k + 1) = rgone l i k ++ [x] := by
  rw [List.getElem?_eq_some_iff] at hx
  obtain ⟨hk, rfl⟩ := hx
  unfold rgone
  rw [List.take_succ_eq_append_getElem hk]
  rcases Nat.lt_or_ge i k with h | h
  · rw [List.eraseIdx_append_of_lt_length (by simp; omega)]
  · rw [List.eraseIdx_append_of_length_le (by simp; omega), List.eraseIdx_of_length_le (l := l.take k) (by simp; omega), List.eraseIdx_of_length_le (by simp; omega)]
end
theorem frTR (T : Nat) (w : World) (o : Nat) (v : Value) : Fr (fun k => k = T) w (w.setCell ⟨T, o, none⟩ v) := Fr.setCell (S := fun k => k = T) w ⟨T, o, none⟩ rfl v
def noLet : Value := .agg #[.int .i64 0, .int .i64 0, .int .i64 0, .int .i64 0, .int .i64 0, .string ⟨#[]⟩]
def letVal (m : Msg) : Value := .agg #[.int .i64 m.kind, .int .i64 m.frm, .int .i64 m.to, .int .i64 m.epoch, .int .i64 m.n, .string (encB m.recs)]
section
variable {w : World} {S : Nat → Prop} {b : Nat} {d : Wd} {ev uv : Value}
theorem RRep.listed {w1 w' : World} (h : RRep w S b d ev uv) (hb1 : Below w.heap.size w w1) (v' : Value) (way' : List Msg)
    (hgg : ∀ g, v'.ownBlock = some g → w.heap.size ≤ g) (hown : w1.ownsRow 0 134 6 v' way'.length (letCells way')) (T : Nat) (hT : w.heap.size ≤ T) (hTg : v'.ownBlock ≠ some T)
    (hfr : Fr (fun k => k = T) (w1.setCell ⟨b, 77, none⟩ v') w') :
    RRep w' (Ext S w) b { d with way := way' } ev v' ∧ Fr S w w' := by
  have hb := h.lt
  obtain ⟨cs, hbl, hc⟩ := h.blk
  have hz : (w1.setCell ⟨b, 77, none⟩ v').heap.size = w1.heap.size := by simp [World.setCell]
  have hold : ∀ k, k < w.heap.size → k ≠ b → w'.heap[k]? = w.heap[k]? := fun k hk hkb => by
    rw [hfr.block k (by rw [hz]; have := hb1.size; omega) (fun e => by have : k = T := e; omega), Below.heap_setCell _ _ _ _ hkb, hb1.block k hk]
  refine ⟨?_, ?_⟩
  · exact { blk := ⟨_, by
              rw [hfr.block b (by rw [hz]; have := hb1.size; omega) (fun e => by have : b = T := e; omega)]
              exact heap_setCell_at _ _ _ _ _ _ _ ((hb1.block b hb).trans hbl), by
                refine hc.set 77 v' (by omega) ?_ ?_ ?_ ?_ ?_ ?_ ?_ ?_ ?_ ?_
                all_goals first | (intro i j hi hj; rw [if_neg (by omega)]) | (intro i hi; rw [if_neg (by omega)]) | rfl⟩
            inb := Or.inl h.inb
            eras := ownsRow_same h.eras fun g hg hl => hold g hl (by
              obtain ⟨cu, hcu⟩ := ownsRow_block h.eras hg
              exact ne_of_type hcu hbl (by decide))
            eraS := fun g hg => Or.inl (h.eraS g hg)
            way := ownsRow_same hown fun g hg hl => by
              have := hgg g hg
              rw [hfr.block g (by rw [hz]; exact hl) (fun e => hTg (by rw [hg]; exact congrArg some e))]
              exact Below.heap_setCell _ _ _ _ (fun e => by have : g = b := e; omega)
            wayS := fun g hg => Or.inr (hgg g hg) }
  · refine ((Fr.below hb1).then (Fr.setCell w1 ⟨b, 77, none⟩ h.inb v')).trans (hfr.mono fun k hk => ?_)
    subst hk; exact Or.inr hT

set_option maxHeartbeats 800000 in
theorem rout_nil (i : Int) (w : World) :
    Calls Try.prog 100 #[.pointer none, .int .i64 i] w fun e w' => e = .returned (.tuple #[noLet, .int .i64 1]) ∧ Below w.heap.size w w' := by
  go_enter Try.func100, Try.ntmps100
  go_wp2
  exact bodyPost_ret (v := .tuple #[.agg #[.int .i64 0, .int .i64 0, .int .i64 0, .int .i64 0, .int .i64 0, .string ⟨#[]⟩], .int .i64 1]) (by simp [results, Try.results100, go_sem]) rfl ⟨rfl, (Below.refl _ _).alloc (Nat.le_refl _) _⟩

set_option maxHeartbeats 800000 in
theorem rout_bad (h : RRep w S b d ev uv) (i : Int) (hi : rUnder d i = false) :
    Calls Try.prog 100 #[.pointer (some ⟨b, 0, none⟩), .int .i64 i] w fun e w' => e = .returned (.tuple #[noLet, .int .i64 13]) ∧ Below w.heap.size w w' := by
  have hw := h.cWay
  have hb := h.lt
  obtain ⟨ao, cap, hu, _, _, _⟩ := ownsRow_shape h.way
  subst hu
  have hcase : i < 0 ∨ (0 ≤ i ∧ (d.way.length : Int) ≤ i) := by
    simp [rUnder] at hi
    omega
  clear h hi
  rcases hcase with h1 | ⟨h1, h2⟩
  all_goals
    go_enter Try.func100, Try.ntmps100
    go_wp2
    exact bodyPost_ret (v := .tuple #[.agg #[.int .i64 0, .int .i64 0, .int .i64 0, .int .i64 0, .int .i64 0, .string ⟨#[]⟩], .int .i64 13]) (by simp [results, Try.results100, go_sem]) rfl ⟨rfl, (Below.refl _ _).alloc (Nat.le_refl _) _⟩

set_option maxHeartbeats 3200000 in
set_option maxRecDepth 100000 in
theorem rout_any (h : RRep w S b d ev uv) (hway : d.way.length ≤ 50) (i : Nat) (x : Msg) (hx : d.way[i]? = some x) :
    Calls Try.prog 100 #[.pointer (some ⟨b, 0, none⟩), .int .i64 i] w fun e w' =>
      e = .returned (.tuple #[letVal x, .int .i64 0]) ∧ (∃ uv', RRep w' (Ext S w) b (rOut d i) ev uv') ∧ Fr S w w' := by
  have hi : i < d.way.length := (List.getElem?_eq_some_iff.1 hx).1
  have hw := h.cWay
  have hb := h.lt
  obtain ⟨ao, cap, hu, hcap, hblk, hpos⟩ := ownsRow_shape h.way
  obtain ⟨g, rfl⟩ := hpos (by omega)
  subst hu
  obtain ⟨c0, c1, c2, c3, c4, c5⟩ := let_cells h.way i x hx
  have hgl := ownsRow_lt h.way (g := g) rfl
  have H : Hid (RRep w S b d ev (.slice (some ⟨g, 0, none⟩) d.way.length cap)) := h
  have HW : Hid (w.ownsRow 0 134 6 (.slice (some ⟨g, 0, none⟩) d.way.length cap) d.way.length (letCells d.way)) := h.way
  clear h hx hcap hblk hpos
  obtain ⟨i0, hi0, hz0, hz1, hz2⟩ := info_parts infoLet
  have hii : (i : Int) < (d.way.length : Int) := by omega
  have hd1 : decide (d.way.length ≤ i) = false := decide_eq_false (by omega)
  have hd2 : decide ((i : Int) < 0) = false := decide_eq_false (by omega)
  go_enter Try.func100, Try.ntmps100
  go_wp2_with fail
  refine wp_genR (fun W => W.heap.size = w.heap.size + 2 ∧ Below w.heap.size w W ∧ W.heap[w.heap.size]? = some (.cells #[.int .i64 0, .int .i64 0, .int .i64 0, .int .i64 0, .int .i64 0, .string ⟨#[]⟩] 134) ∧
      W.heap[w.heap.size + 1]? = some (.cells #[.int .i64 x.kind, .int .i64 x.frm, .int .i64 x.to, .int .i64 x.epoch, .int .i64 x.n, .string (encB x.recs)] 134)) ⟨by simp, ((Below.refl _ _).alloc (Nat.le_refl _) _).alloc (by simp) _, heap_alloc2_old w _ _, heap_alloc2_new w _ _⟩ ?_
  rintro W ⟨hWs, hWB, hW0, hW1⟩
  have HWs : Hid (W.heap.size = w.heap.size + 2) := hWs
  have HWo : Hid (Below w.heap.size w W) := hWB
  have HW0 : Hid (W.heap[w.heap.size]? = some (.cells #[.int .i64 0, .int .i64 0, .int .i64 0, .int .i64 0, .int .i64 0, .string ⟨#[]⟩] 134)) := hW0
  have HW1 : Hid (W.heap[w.heap.size + 1]? = some (.cells #[.int .i64 x.kind, .int .i64 x.frm, .int .i64 x.to, .int .i64 x.epoch, .int .i64 x.n, .string (encB x.recs)] 134)) := hW1
  clear hWs hWB hW0 hW1 c0 c1 c2 c3 c4 c5 hw
  go_loopw [7, 8] (fun v t wr => ∃ k : Nat, k ≤ d.way.length ∧ t = .int .i64 k ∧
      wr.ownsRow (w.heap.size + 2) 134 6 v (rgone d.way i k).length (letCells (rgone d.way i k)) ∧ Below (w.heap.size + 2) W wr)
    (fun _ t _ => d.way.length - (intOf t).toNat)
  case atStart => exact ⟨0, Nat.zero_le _, rfl, by rw [rgone_zero]; exact World.ownsRow_nil _ _ _ _, Below.refl _ _⟩
  case round =>
    obtain ⟨k, hk, rfl, hown, hbel⟩ := hrel
    have hszr : w.heap.size + 2 ≤ wr.heap.size := by have := hbel.size; have := HWs.out; omega
    have hgone := rgone_le d.way i k
    have hRw : RRep wr S b d ev (.slice (some ⟨g, 0, none⟩) d.way.length cap) := H.out.same fun k' _ hk' => by rw [hbel.block k' (by omega), HWo.out.block k' hk']
    have cw := hRw.cWay
    have fw := hRw.free 77
    have hwr := hRw.way
    have HO : Hid (wr.ownsRow (w.heap.size + 2) 134 6 u7 (rgone d.way i k).length (letCells (rgone d.way i k))) := hown
    have HB : Hid (Below (w.heap.size + 2) W wr) := hbel
    have hbr : b < wr.heap.size := hRw.lt
    clear hRw hown hbel
    by_cases hkn : k < d.way.length
    · have hy : d.way[k]? = some d.way[k] := by simp [hkn]
      obtain ⟨c0, c1, c2, c3, c4, c5⟩ := let_cells hwr k _ hy
      have HY : Hid (d.way[k]? = some d.way[k]) := hy
      clear hwr hy
      generalize d.way[k] = y at c0 c1 c2 c3 c4 c5 HY
      have hglr : g < wr.heap.size := by omega
      by_cases hki : k = i
      · have b1 : ((k : Int) != (i : Int)) = false := by simp [hki]
        have HG : Hid (rgone d.way i (k + 1) = rgone d.way i k) := by show rgone d.way i (k + 1) = _; subst hki; exact rgone_at d.way k hkn
        clear hki
        go_wp2
        go_roundw
        case rel => exact ⟨k + 1, by omega, by go_num, by rw [HG.out]; exact HO.out, HB.out⟩
        case measure => simp [intOf]; omega
      · have b1 : ((k : Int) != (i : Int)) = true := by simp; omega
        have HG : Hid (rgone d.way i (k + 1) = rgone d.way i k ++ [y]) := rgone_other d.way i k y HY.out hki
        have hnews := letRow_one y
        clear hki
        go_wp2_with (first | (at_builtin; refine wpList_append_own _ rfl _ _ 114 rfl (w.heap.size + 2) 134 i0 _ 6 56 Try.underlying114 hi0 hz0 hz1 hz2 rfl (by omega) u7 (rgone d.way i k).length (letCells (rgone d.way i k)) rfl (HO.out.alloc _) ⟨wr.heap.size, 0, none⟩ 1 1 (letRow y) rfl rfl (World.news_of_block (cs := (letRow y).toArray) (t := 134) (fr := (0, 0)) (heap_alloc_new wr _)) hnews (by unfold maxLen; omega) (by omega) (by simp; omega) ?_))
        intro v2 w2 hown2 hgrow2 hx2
        clear hx2
        have HO2 : Hid _ := hown2
        have HG2 : Hid _ := hgrow2
        clear hown2 hgrow2
        go_wp2
        go_roundw
        case rel =>
          refine ⟨k + 1, by omega, by go_num, ?_, ?_⟩
          · have e2 : letCells [y] = letRow y := by simp [letCells]
            rw [HG.out, letCells_append, e2, List.length_append]
            exact HO2.out
          · exact (HB.out.alloc hszr _).grown HG2.out (by simp; omega) (fun q hq => ((HO.out.lt q hq).1))
        case measure => simp [intOf]; omega
    · have : k = d.way.length := by omega
      subst this
      have hG := rgone_all d.way i d.way.length (Nat.le_refl _)
      have hown' := HO.out
      rw [hG] at hown'
      obtain ⟨vo, vcap, rfl, _, _, _⟩ := ownsRow_shape hown'
      have z : ∀ j, wr.cell? ⟨w.heap.size, j, none⟩ = (#[.int .i64 0, .int .i64 0, .int .i64 0, .int .i64 0, .int .i64 0, .string ⟨#[]⟩] : Array Value)[j]? := fun j => cell_of_row _ _ _ _ _ (0, 0) ((HB.out.block _ (by omega)).trans HW0.out)
      have m : ∀ j, wr.cell? ⟨w.heap.size + 1, j, none⟩ = (#[.int .i64 x.kind, .int .i64 x.frm, .int .i64 x.to, .int .i64 x.epoch, .int .i64 x.n, .string (encB x.recs)] : Array Value)[j]? := fun j => cell_of_row _ _ _ _ _ (0, 0) ((HB.out.block _ (by omega)).trans HW1.out)
      have zf : ∀ j, wr.frozen? ⟨w.heap.size, j, none⟩ = false := fun j => by simp [World.frozen?, (HB.out.block _ (by omega)).trans HW0.out]
      have z0 := z 0; have z1 := z 1; have z2 := z 2; have z3 := z 3; have z4 := z 4; have z5 := z 5
      have m0 := m 0; have m1 := m 1; have m2 := m 2; have m3 := m 3; have m4 := m 4; have m5 := m 5
      have f0 := zf 0; have f1 := zf 1; have f2 := zf 2; have f3 := zf 3; have f4 := zf 4; have f5 := zf 5
      simp at z0 z1 z2 z3 z4 z5 m0 m1 m2 m3 m4 m5
      clear z m zf
      have HOw : Hid (wr.ownsRow (w.heap.size + 2) 134 6 (.slice vo (d.way.eraseIdx i).length vcap) (d.way.eraseIdx i).length (letCells (d.way.eraseIdx i))) := hown'
      clear hown' HO hwr
      have nb0 : ¬ b = w.heap.size := by omega
      have nb1 : ¬ b = w.heap.size + 1 := by omega
      go_wp2
      refine bodyPost_ret (v := .tuple #[.agg #[.int .i64 x.kind, .int .i64 x.frm, .int .i64 x.to, .int .i64 x.epoch, .int .i64 x.n, .string (encB x.recs)], .int .i64 0]) (by simp [results, Try.results100, go_sem, *]) rfl ⟨rfl, ?_⟩
      have hbw : Below w.heap.size w wr := HWo.out.trans (HB.out.mono (by omega))
      have R := H.out.listed hbw (.slice vo (d.way.eraseIdx i).length vcap) (d.way.eraseIdx i) (fun q hq => by have := (HOw.out.lt q hq).1; omega) ⟨HOw.out.1, orR HOw.out.2 fun ⟨g', cap', cur, e, _, r⟩ => ⟨g', cap', cur, e, Nat.zero_le _, r⟩⟩ w.heap.size (Nat.le_refl _) (fun e => by have := (HOw.out.lt _ e).1; omega)
        ((((((frTR _ _ 0 (.int .i64 x.kind)).then (frTR _ _ 1 (.int .i64 x.frm))).then (frTR _ _ 2 (.int .i64 x.to))).then (frTR _ _ 3 (.int .i64 x.epoch))).then (frTR _ _ 4 (.int .i64 x.n))).then (frTR _ _ 5 (.string (encB x.recs))))
      exact ⟨⟨_, R.1⟩, R.2⟩
end
end Go.Proofs.Ythpjcmilfipbaaa

namespace Go.Proofs.Ythpjcmilfipbaaa
set_option linter.unusedVariables false
set_option linter.unusedSimpArgs false
open Go.RowKit
/-- A letter in a block of its own. -/
def LetAt (w : World) (B : Nat) (m : Msg) : Prop := w.heap[B]? = some (.cells #[.int .i64 m.kind, .int .i64 m.frm, .int .i64 m.to, .int .i64 m.epoch, .int .i64 m.n, .string (encB m.recs)] 134)
theorem LetAt.cells {w : World} {B : Nat} {m : Msg} (h : LetAt w B m) : w.cell? ⟨B, 0, none⟩ = some (.int .i64 m.kind) ∧ w.cell? ⟨B, 1, none⟩ = some (.int .i64 m.frm) ∧ w.cell? ⟨B, 2, none⟩ = some (.int .i64 m.to) ∧
    w.cell? ⟨B, 3, none⟩ = some (.int .i64 m.epoch) ∧ w.cell? ⟨B, 4, none⟩ = some (.int .i64 m.n) ∧ w.cell? ⟨B, 5, none⟩ = some (.string (encB m.recs)) :=
  ⟨(cell_of_row _ _ _ _ _ _ h).trans rfl, (cell_of_row _ _ _ _ _ _ h).trans rfl, (cell_of_row _ _ _ _ _ _ h).trans rfl, (cell_of_row _ _ _ _ _ _ h).trans rfl, (cell_of_row _ _ _ _ _ _ h).trans rfl, (cell_of_row _ _ _ _ _ _ h).trans rfl⟩
theorem LetAt.lt {w : World} {B : Nat} {m : Msg} (h : LetAt w B m) : B < w.heap.size := (Array.getElem?_eq_some_iff.1 h).1
theorem LetAt.same {w w' : World} {B : Nat} {m : Msg} (h : LetAt w B m) (hB : w'.heap[B]? = w.heap[B]?) : LetAt w' B m := hB.trans h
theorem ROk.know {d : Wd} (h : ROk d) (k : Nat) (hk : k < 5) (f : Nat) (n : Int) (h0 : 0 ≤ n) (h1 : n ≤ 60) : ROk (rKnow d k f n) := by
  unfold rKnow
  split
  · refine h.put k _ (h.fol k hk) (h.rol k hk) (h.log k hk) (h.byt k hk) (fun j hj => ?_)
    show 0 ≤ upd (d.mem k).knows f n j ∧ upd (d.mem k).knows f n j ≤ 60
    unfold upd
    split
    · exact ⟨h0, h1⟩
    · exact h.kno k j hk hj
  · exact h
theorem rKnow_same (d : Wd) (k f : Nat) (n : Int) : (rKnow d k f n).eras = d.eras ∧ ((rKnow d k f n).mem k).log = (d.mem k).log ∧ ((rKnow d k f n).mem k).follows = (d.mem k).follows ∧ (rKnow d k f n).way = d.way := by
  unfold rKnow
  split
  · refine ⟨rfl, ?_, ?_, rfl⟩ <;> rw [put_at]
  · exact ⟨rfl, rfl, rfl, rfl⟩
theorem ROk.ack {d : Wd} (h : ROk d) (k f : Nat) (hk : k < 5) (hf : f < 5) (hfo : 1 ≤ (d.mem k).follows) : ROk (rAck d k f) := by
  unfold rAck
  split
  · rename_i hlt
    obtain ⟨n, hn⟩ := Int.eq_ofNat_of_zero_le (h.kno k f hk hf).1
    rw [hn] at hlt ⊢
    exact h.appends k f hk hf hfo n (by omega)
  · exact h
section
variable {w : World} {S : Nat → Prop} {b : Nat} {d : Wd} {ev uv : Value}
theorem RRep.drewN (h : RRep w S b d ev uv) (n : Nat) : RRep (w.drewN n) S b d ev uv := h.same fun _ _ _ => rfl
theorem Fr.drewN (S : Nat → Prop) (w : World) (n : Nat) : Fr S w (w.drewN n) := ⟨rfl, rfl, rfl, Nat.le_refl _, fun _ _ _ => rfl⟩
theorem rappends_int (h : RRep w S b d ev uv) (hway : d.way.length ≤ 50) (k to : Nat) (hk : k < 5) (n : Int) (h0 : 0 ≤ n) (hn : n < (d.mem k).log.length) (hlen : (d.mem k).log.length ≤ 60) :
    Calls Try.prog 77 #[.pointer (some ⟨b, 0, none⟩), .int .i64 k, .int .i64 to, .int .i64 n] w fun e w' =>
      e = .returned (.tuple #[]) ∧ (∃ uv', RRep w' (Ext S w) b (rAppends d k to n) ev uv') ∧ Fr S w w' := by
  obtain ⟨n, rfl⟩ := Int.eq_ofNat_of_zero_le h0
  exact rappends_any h hway k to hk n (by omega) hlen

set_option maxHeartbeats 6400000 in
set_option maxRecDepth 100000 in
theorem rleads_ack (h : RRep w S b d ev uv) (hok : ROk d) (k : Nat) (hk : k < 5) (m : Msg) (hm : MsgOk d.eras.length m) (hk9 : m.kind = 9) (hr3 : (d.mem k).role = 3) :
    Calls Try.prog 113 #[.pointer (some ⟨b, 0, none⟩), .int .i64 k, letVal m] w fun e w' =>
      e = .returned (.tuple #[]) ∧ (∃ uv', RRep w' (Ext S w) b (rLeads d k m) ev uv') ∧ Fr S w w' := by
  obtain ⟨m0, m1, m2, m3, m4, m5, m6, m7, m8, m9, m10, m11, m12, m13, m14⟩ := h.member k hk
  have hb := h.lt
  have hlen := hok.log k hk
  obtain ⟨f, hf⟩ := Int.eq_ofNat_of_zero_le (hm.lead (Or.inl hk9))
  have hf5 : f < 5 := by have := hm.frm.2; omega
  have hn0 := hm.n
  have hfo := hok.rol k hk (by omega)
  have HF : Hid (rLeads d k m = rAck (rKnow d k f m.n) k f) := by
    show rLeads d k m = _
    rw [rLeads, if_neg (by omega), if_neg (by omega), if_neg (by omega), if_pos ⟨hk9, hr3⟩, hf]; rfl
  have H : Hid (RRep w S b d ev uv) := h
  have HO : Hid (ROk d) := hok
  have HFo : Hid (1 ≤ (d.mem k).follows) := hfo
  have b3 : (m.kind == 3) = false := by simp [hk9]
  have b5 : (m.kind == 5) = false := by simp [hk9]
  have b7 : (m.kind == 7) = false := by simp [hk9]
  have b9 : (m.kind == 9) = true := by simp [hk9]
  have br3 : ((d.mem k).role == 3) = true := by simp [hr3]
  unfold letVal
  rw [hf]
  have HMf : Hid (m.frm = (f : Int)) := hf
  clear h hok hm hk9 hr3 hfo hf
  have hk0 : (0 : Int) ≤ (k : Int) := by omega
  have hk1 : (k : Int) < 5 := by omega
  have hf0 : (0 : Int) ≤ (f : Int) := by omega
  have hf1 : (f : Int) < 5 := by omega
  have hnb0 : ¬ b = w.heap.size := by omega
  have hnb1 : ¬ b = w.heap.size + 1 := by omega
  go_enter Try.func113, Try.ntmps113
  go_wp2_with fail
  refine wp_genR (fun W => RRep W (Now S w) b d ev uv ∧ Fr S w W ∧ LetAt W w.heap.size m ∧ Copy W (w.heap.size + 1) (d.mem k)) ⟨(H.out.now.alloc _).alloc _, (Fr.alloc _ _ _).then (Fr.alloc _ _ _), by unfold LetAt; rw [HMf.out]; exact heap_alloc2_old w _ _, by have q := copy_alloc (w.alloc (.cells #[.int .i64 m.kind, .int .i64 f, .int .i64 m.to, .int .i64 m.epoch, .int .i64 m.n, .string (encB m.recs)] 134)) (d.mem k); simpa using q⟩ ?_
  rintro W ⟨hWR, hWB, hWL, hWC⟩
  obtain ⟨_, _, _, _, l4, _⟩ := hWL.cells
  have kf := hWC.knows f hf5
  have cK := hWR.cKno k f hk hf5
  have zK := hWR.free (k * 15 + 5 + f)
  have hbW := hWR.lt
  have HWR : Hid (RRep W (Now S w) b d ev uv) := hWR
  have HWB : Hid (Fr S w W) := hWB
  have HWL : Hid (LetAt W w.heap.size m) := hWL
  have HWC : Hid (Copy W (w.heap.size + 1) (d.mem k)) := hWC
  clear hWR hWB hWL hWC m0 m1 m2 m3 m4 m5 m6 m7 m8 m9 m10 m11 m12 m13 m14
  have hkb := HO.out.kno k f hk hf5
  -- what follows the test, in whatever world
  by_cases hgt : (d.mem k).knows f < m.n
  · have HK : Hid (rKnow d k f m.n = d.put k { d.mem k with knows := upd (d.mem k).knows f m.n }) := by show rKnow d k f m.n = _; simp [rKnow, hgt]
    have HKn : Hid (((rKnow d k f m.n).mem k).knows f = m.n) := by show ((rKnow d k f m.n).mem k).knows f = _; rw [HK.out, put_at]; simp [upd]
    have HSet : Hid (∀ W1 : World, RRep W1 (Now S w) b d ev uv → RRep (W1.setCell ⟨b, k * 15 + 5 + f, none⟩ (.int .i64 m.n)) (Now S w) b (rKnow d k f m.n) ev uv ∧ Fr (Now S w) W1 (W1.setCell ⟨b, k * 15 + 5 + f, none⟩ (.int .i64 m.n))) := fun W1 h1 => by
      rw [HK.out]; exact h1.setCell (k * 15 + 5 + f) (.int .i64 m.n) _ rfl rfl (fun cs hcs => hcs.setKno k hk f hf5 m.n)
    have HO2 : Hid (ROk (rKnow d k f m.n)) := HO.out.know k hk f m.n hn0.1 hn0.2
    have HKs : Hid (((rKnow d k f m.n).mem k).log = (d.mem k).log) := (rKnow_same d k f m.n).2.1
    obtain ⟨_, _, _, g4⟩ := HWC.out.cells
    by_cases hlt : m.n < ((d.mem k).log.length : Int)
    · have HA : Hid (rAck (rKnow d k f m.n) k f = rAppends (rKnow d k f m.n) k f (m.n)) := by
        show rAck (rKnow d k f m.n) k f = _
        rw [rAck, HKn.out, HKs.out, if_pos hlt]
      go_quiet (fail)
      go_wp2_with fail
      go_region
      go_wp2_with (first | (go_at_call 74; refine (rcount_any _ hlen _).mono ?_; rintro e w1 ⟨rfl, hw1⟩; rw [hw1]; clear hw1))
      refine (rappends_int (HSet.out _ (HWR.out.drewN (nq + 1))).1 HO2.out.way k f hk _ hn0.1 (by rw [HKs.out]; exact hlt) (by rw [HKs.out]; exact hlen)).mono ?_
      rintro e w3 ⟨rfl, ⟨uv3, hR3⟩, hF3⟩
      have HR3 : Hid _ := hR3
      have HF3 : Hid _ := hF3
      clear hR3 hF3
      go_wp2
      exact bodyPost_end (results_none rfl _ _ _) rfl ⟨rfl, ⟨uv3, by rw [HF.out, HA.out]; exact HR3.out.back (by have := HWB.out.size; simpa [World.setCell] using this)⟩, (HWB.out.then ((Fr.drewN _ W (nq + 1)).then ((HSet.out _ (HWR.out.drewN (nq + 1))).2.now))).then HF3.out.now⟩
    · have HA : Hid (rAck (rKnow d k f m.n) k f = rKnow d k f m.n) := by
        show rAck (rKnow d k f m.n) k f = _
        rw [rAck, HKn.out, HKs.out, if_neg hlt]
      have hge : ((d.mem k).log.length : Int) ≤ m.n := by omega
      clear hlt
      go_quiet (fail)
      go_wp2_with fail
      go_region
      go_wp2_with (first | (go_at_call 74; refine (rcount_any _ hlen _).mono ?_; rintro e w1 ⟨rfl, hw1⟩; rw [hw1]; clear hw1))
      exact bodyPost_end (results_none rfl _ _ _) rfl ⟨rfl, ⟨uv, by rw [HF.out, HA.out]; exact ((HSet.out _ (HWR.out.drewN (nq + 1))).1).mono fun _ _ e => Or.inl e.1⟩, (HWB.out.then ((Fr.drewN _ W (nq + 1)).then ((HSet.out _ (HWR.out.drewN (nq + 1))).2.now)))⟩
  · have HEq : Hid (rKnow d k f m.n = d) := by show rKnow d k f m.n = _; simp [rKnow, hgt]
    have HKn : Hid (((rKnow d k f m.n).mem k).knows f = (d.mem k).knows f) := by show ((rKnow d k f m.n).mem k).knows f = _; rw [HEq.out]
    have hle : m.n ≤ (d.mem k).knows f := by omega
    clear hgt
    have HO2 : Hid (ROk (rKnow d k f m.n)) := HO.out.know k hk f m.n hn0.1 hn0.2
    have HKs : Hid (((rKnow d k f m.n).mem k).log = (d.mem k).log) := (rKnow_same d k f m.n).2.1
    obtain ⟨_, _, _, g4⟩ := HWC.out.cells
    by_cases hlt : (d.mem k).knows f < ((d.mem k).log.length : Int)
    · have HA : Hid (rAck (rKnow d k f m.n) k f = rAppends (rKnow d k f m.n) k f ((d.mem k).knows f)) := by
        show rAck (rKnow d k f m.n) k f = _
        rw [rAck, HKn.out, HKs.out, if_pos hlt]
      go_quiet (fail)
      go_wp2_with (first | (go_at_call 74; refine (rcount_any _ hlen _).mono ?_; rintro e w1 ⟨rfl, hw1⟩; rw [hw1]; clear hw1))
      refine (rappends_int (show RRep (W.drewN nq) (Now S w) b (rKnow d k f m.n) ev uv by rw [HEq.out]; exact HWR.out.drewN nq) HO2.out.way k f hk _ hkb.1 (by rw [HKs.out]; exact hlt) (by rw [HKs.out]; exact hlen)).mono ?_
      rintro e w3 ⟨rfl, ⟨uv3, hR3⟩, hF3⟩
      have HR3 : Hid _ := hR3
      have HF3 : Hid _ := hF3
      clear hR3 hF3
      go_wp2
      exact bodyPost_end (results_none rfl _ _ _) rfl ⟨rfl, ⟨uv3, by rw [HF.out, HA.out]; exact HR3.out.back (W := W) HWB.out.size⟩, (HWB.out.then (Fr.drewN _ W nq)).then HF3.out.now⟩
    · have HA : Hid (rAck (rKnow d k f m.n) k f = rKnow d k f m.n) := by
        show rAck (rKnow d k f m.n) k f = _
        rw [rAck, HKn.out, HKs.out, if_neg hlt]
      have hge : ((d.mem k).log.length : Int) ≤ (d.mem k).knows f := by omega
      clear hlt
      go_quiet (fail)
      go_wp2_with (first | (go_at_call 74; refine (rcount_any _ hlen _).mono ?_; rintro e w1 ⟨rfl, hw1⟩; rw [hw1]; clear hw1))
      exact bodyPost_end (results_none rfl _ _ _) rfl ⟨rfl, ⟨uv, by rw [HF.out, HA.out]; exact ((show RRep (W.drewN nq) (Now S w) b (rKnow d k f m.n) ev uv by rw [HEq.out]; exact HWR.out.drewN nq)).mono fun _ _ e => Or.inl e.1⟩, (HWB.out.then (Fr.drewN _ W nq))⟩

set_option maxHeartbeats 6400000 in
set_option maxRecDepth 100000 in
theorem rleads_idle (h : RRep w S b d ev uv) (k : Nat) (hk : k < 5) (m : Msg) (h3 : ¬ (m.kind = 3 ∧ (d.mem k).role = 1)) (h5 : ¬ (m.kind = 5 ∧ (d.mem k).role = 2)) (h7 : ¬ (m.kind = 7 ∧ (d.mem k).role = 2)) (h9 : ¬ (m.kind = 9 ∧ (d.mem k).role = 3)) :
    Calls Try.prog 113 #[.pointer (some ⟨b, 0, none⟩), .int .i64 k, letVal m] w fun e w' =>
      e = .returned (.tuple #[]) ∧ (∃ uv', RRep w' (Ext S w) b (rLeads d k m) ev uv') ∧ Fr S w w' := by
  obtain ⟨m0, m1, m2, m3, m4, m5, m6, m7, m8, m9, m10, m11, m12, m13, m14⟩ := h.member k hk
  have hb := h.lt
  have HF : Hid (rLeads d k m = d) := by show rLeads d k m = _; simp [rLeads, h3, h5, h7, h9]
  have H : Hid (RRep w S b d ev uv) := h
  unfold letVal
  have key : (m.kind = 3 ∧ (d.mem k).role ≠ 1) ∨ (m.kind = 5 ∧ (d.mem k).role ≠ 2) ∨ (m.kind = 7 ∧ (d.mem k).role ≠ 2) ∨ (m.kind = 9 ∧ (d.mem k).role ≠ 3) ∨ (m.kind ≠ 3 ∧ m.kind ≠ 5 ∧ m.kind ≠ 7 ∧ m.kind ≠ 9) := by omega
  clear h h3 h5 h7 h9
  rcases key with ⟨q1, q2⟩ | ⟨q1, q2⟩ | ⟨q1, q2⟩ | ⟨q1, q2⟩ | ⟨q1, q2, q3, q4⟩
  · have b3 : (m.kind == 3) = true := by simp [q1]
    have b5 : (m.kind == 5) = false := by simp [q1]
    have b7 : (m.kind == 7) = false := by simp [q1]
    have b9 : (m.kind == 9) = false := by simp [q1]
    have br : ((d.mem k).role == 1) = false := by simp [q2]
    clear q1 q2
    go_enter Try.func113, Try.ntmps113
    go_wp2
    exact bodyPost_end (results_none rfl _ _ _) rfl ⟨rfl, ⟨_, by rw [HF.out]; exact ((H.out.alloc _).alloc _).mono fun _ _ e => Or.inl e⟩, (Fr.alloc _ _ _).then (Fr.alloc _ _ _)⟩
  · have b3 : (m.kind == 3) = false := by simp [q1]
    have b5 : (m.kind == 5) = true := by simp [q1]
    have b7 : (m.kind == 7) = false := by simp [q1]
    have b9 : (m.kind == 9) = false := by simp [q1]
    have br : ((d.mem k).role == 2) = false := by simp [q2]
    clear q1 q2
    go_enter Try.func113, Try.ntmps113
    go_wp2
    exact bodyPost_end (results_none rfl _ _ _) rfl ⟨rfl, ⟨_, by rw [HF.out]; exact ((H.out.alloc _).alloc _).mono fun _ _ e => Or.inl e⟩, (Fr.alloc _ _ _).then (Fr.alloc _ _ _)⟩
  · have b3 : (m.kind == 3) = false := by simp [q1]
    have b5 : (m.kind == 5) = false := by simp [q1]
    have b7 : (m.kind == 7) = true := by simp [q1]
    have b9 : (m.kind == 9) = false := by simp [q1]
    have br : ((d.mem k).role == 2) = false := by simp [q2]
    clear q1 q2
    go_enter Try.func113, Try.ntmps113
    go_wp2
    exact bodyPost_end (results_none rfl _ _ _) rfl ⟨rfl, ⟨_, by rw [HF.out]; exact ((H.out.alloc _).alloc _).mono fun _ _ e => Or.inl e⟩, (Fr.alloc _ _ _).then (Fr.alloc _ _ _)⟩
  · have b3 : (m.kind == 3) = false := by simp [q1]
    have b5 : (m.kind == 5) = false := by simp [q1]
    have b7 : (m.kind == 7) = false := by simp [q1]
    have b9 : (m.kind == 9) = true := by simp [q1]
    have br : ((d.mem k).role == 3) = false := by simp [q2]
    clear q1 q2
    go_enter Try.func113, Try.ntmps113
    go_wp2
    exact bodyPost_end (results_none rfl _ _ _) rfl ⟨rfl, ⟨_, by rw [HF.out]; exact ((H.out.alloc _).alloc _).mono fun _ _ e => Or.inl e⟩, (Fr.alloc _ _ _).then (Fr.alloc _ _ _)⟩
  · have b3 : (m.kind == 3) = false := by simp [q1]
    have b5 : (m.kind == 5) = false := by simp [q2]
    have b7 : (m.kind == 7) = false := by simp [q3]
    have b9 : (m.kind == 9) = false := by simp [q4]
    clear q1 q2 q3 q4
    go_enter Try.func113, Try.ntmps113
    go_wp2
    exact bodyPost_end (results_none rfl _ _ _) rfl ⟨rfl, ⟨_, by rw [HF.out]; exact ((H.out.alloc _).alloc _).mono fun _ _ e => Or.inl e⟩, (Fr.alloc _ _ _).then (Fr.alloc _ _ _)⟩
end
end Go.Proofs.Ythpjcmilfipbaaa
