/- My own text: several texts in one. -/
import Derived.Test.YthpjcmilfipbaaaP11
import Derived.Test.YthpjcmilfipbaaaP10
namespace Go.Proofs.Ythpjcmilfipbaaa
set_option linter.unusedVariables false
set_option linter.unusedSimpArgs false
open Go.RowKit

section
variable {α : Type} (l : List α) (i : Nat)
def gone (k : Nat) : List α := (l.take k).eraseIdx i
theorem gone_zero : gone l i 0 = [] := by simp [gone]
theorem gone_all (k : Nat) (hk : l.length ≤ k) : gone l i k = l.eraseIdx i := by simp [gone, List.take_of_length_le hk]
theorem gone_le (k : Nat) : (gone l i k).length ≤ k := by
  have h1 := List.length_eraseIdx_le (l.take k) i
  have h2 := List.length_take_le k l
  unfold gone; omega
theorem gone_at (hi : i < l.length) : gone l i (i + 1) = gone l i i := by
  unfold gone
  rw [List.take_succ_eq_append_getElem hi, List.eraseIdx_append_of_length_le (by simp; omega), List.eraseIdx_of_length_le (l := l.take i) (by simp; omega)]
  simp [Nat.min_eq_left (Nat.le_of_lt hi)]
theorem gone_other (k : Nat) (x : α) (hx : l[k]? = some x) (hki : k ≠ i) : gone l i (k + 1) = gone l i k ++ [x] := by
  rw [List.getElem?_eq_some_iff] at hx
  obtain ⟨hk, rfl⟩ := hx
  unfold gone
  rw [List.take_succ_eq_append_getElem hk]
  rcases Nat.lt_or_ge i k with h | h
  · rw [List.eraseIdx_append_of_lt_length (by simp; omega)]
  · rw [List.eraseIdx_append_of_length_le (by simp; omega), List.eraseIdx_of_length_le (l := l.take k) (by simp; omega), List.eraseIdx_of_length_le (by simp; omega)]
end

theorem map_eraseIdx {α β : Type} (f : α → β) : ∀ (l : List α) (i : Nat), (l.map f).eraseIdx i = (l.eraseIdx i).map f
  | [], _ => by simp
  | a :: l, 0 => by simp
  | a :: l, i + 1 => by simp [map_eraseIdx f l i]

theorem frT (T : Nat) (w : World) (o : Nat) (v : Value) : Fr (fun k => k = T) w (w.setCell ⟨T, o, none⟩ v) := Fr.setCell (S := fun k => k = T) w ⟨T, o, none⟩ rfl v

section
variable {w : World} {S : Nat → Prop} {b : Nat} {c : Clu} {lv : Nat → Value} {ev uv : Value} {mv : List (Msg × Value)}
/-- A new list of messages, whose members were there, is stored. -/
theorem Rep.listed {w1 w' : World} (h : Rep w S b c lv ev uv mv) (hb1 : Below w.heap.size w w1) (v' : Value) (mv' : List (Msg × Value)) (gg : Nat) (hsub : ∀ x, x ∈ mv' → x ∈ mv)
    (hv' : v'.ownBlock = some gg) (hgg : w.heap.size ≤ gg) (hown : w1.ownsRow 0 101 6 v' mv'.length (msgCells mv')) (T : Nat) (hT : w.heap.size ≤ T) (hTg : gg ≠ T)
    (hfr : Fr (fun k => k = T) (w1.setCell ⟨b, 77, none⟩ v') w') :
    Rep w' (Ext S w) b { c with ways := mv'.map Prod.fst } lv ev v' mv' ∧ Fr S w w' ∧ ∀ (v : Value) (m : Nat) (xs : List Value), w.ownsRow 0 36 3 v m xs → w'.ownsRow 0 36 3 v m xs := by
  have hb := h.lt
  have hz : (w1.setCell ⟨b, 77, none⟩ v').heap.size = w1.heap.size := by simp [World.setCell]
  have hold : ∀ k, k < w.heap.size → k ≠ b → w'.heap[k]? = w.heap[k]? := fun k hk hkb => by
    rw [hfr.block k (by rw [hz]; have := hb1.size; omega) (fun e => by have : k = T := e; omega), Below.heap_setCell _ _ _ _ hkb, hb1.block k hk]
  have keep : ∀ {v : Value} {m : Nat} {xs : List Value} {e sz : Nat}, w.ownsRow 0 e sz v m xs → e ≠ 94 → w'.ownsRow 0 e sz v m xs := by
    intro v m xs e sz ho he
    refine ownsRow_same ho fun g hg hl => hold g hl ?_
    obtain ⟨cs, hbl, _⟩ := h.blk
    obtain ⟨cu, hcu⟩ := ownsRow_block ho hg
    exact ne_of_type hcu hbl he
  have hgl := ownsRow_lt hown hv'
  refine ⟨h.newWay (fun k hk => Or.inl hk) v' mv' _ (fun k hk hkb _ => hold k hk hkb) ?_ ?_ ?_ rfl ?_ ?_ ?_, ?_, fun v m xs ho => keep ho (by decide)⟩
  · intro cs hcs
    rw [hfr.block b (by rw [hz]; have := hb1.size; omega) (fun e => by have : b = T := e; omega)]
    exact heap_setCell_at _ _ _ _ _ _ _ ((hb1.block b hb).trans hcs)
  · refine ownsRow_same hown fun g hg hl => ?_
    rw [hv'] at hg; simp at hg; subst hg
    rw [hfr.block gg (by rw [hz]; exact hl) hTg]
    exact Below.heap_setCell _ _ _ _ (fun e => by have : gg = b := e; omega)
  · intro g hg; rw [hv'] at hg; simp at hg; subst hg; exact Or.inr hgg
  · intro x hx; exact keep (h.recs x (hsub x hx)) (by decide)
  · intro x g hx hg; exact Or.inl (h.recS x g (hsub x hx) hg)
  · intro x k g hx hk hg; exact h.recD x k g (hsub x hx) hk hg
  · refine ((Fr.below hb1).then (Fr.setCell w1 ⟨b, 77, none⟩ h.inb v')).trans (hfr.mono fun k hk => ?_)
    subst hk; exact Or.inr hT

set_option maxHeartbeats 3200000 in
set_option maxRecDepth 100000 in
theorem takeOut_any (h : Rep w S b c lv ev uv mv) (hok : Ok c) (i : Nat) (x : Msg × Value) (hx : mv[i]? = some x) :
    Calls Try.prog 49 #[.pointer (some ⟨b, 0, none⟩), .int .i64 i] w fun e w' =>
      e = .returned (.agg #[.int .i64 x.1.kind, .int .i64 x.1.frm, .int .i64 x.1.to, .int .i64 x.1.epoch, .int .i64 x.1.n, x.2]) ∧
      (∃ uv', Rep w' (Ext S w) b (takeOut c i) lv ev uv' (mv.eraseIdx i)) ∧ Fr S w w' ∧ w'.ownsRow 0 36 3 x.2 x.1.recs.length (recCells x.1.recs) := by
  have hi : i < mv.length := (List.getElem?_eq_some_iff.1 hx).1
  have hw := h.cWay
  have hb := h.lt
  have hfr := h.free 77
  have hway := h.way
  have hlen := h.ways_len
  have hways := hok.ways
  obtain ⟨ao, cap, hu, hcap, hblk, hpos⟩ := ownsRow_shape h.way
  obtain ⟨g, rfl⟩ := hpos (by omega)
  subst hu
  obtain ⟨c0, c1, c2, c3, c4, c5⟩ := msg_cells hway i x hx
  have hgl := ownsRow_lt hway (g := g) rfl
  have hgb : g ≠ b := by
    obtain ⟨cs, hbl, _⟩ := h.blk
    obtain ⟨cu, hcu⟩ := ownsRow_block hway (g := g) rfl
    exact ne_of_type hcu hbl (by decide)
  have HFin : Hid (takeOut c i = { c with ways := (mv.eraseIdx i).map Prod.fst }) := by
    show takeOut c i = _
    rw [takeOut, ← h.mvs, map_eraseIdx]
  have H : Hid (Rep w S b c lv ev (.slice (some ⟨g, 0, none⟩) mv.length cap) mv) := h
  have HW : Hid (w.ownsRow 0 101 6 (.slice (some ⟨g, 0, none⟩) mv.length cap) mv.length (msgCells mv)) := hway
  have HX : Hid (mv[i]? = some x) := hx
  have hml : mv.length ≤ 50 := by omega
  have HRec : Hid (∀ y, y ∈ mv → ∃ ro rc, y.2 = .slice ro y.1.recs.length rc) := by
    intro y hy
    obtain ⟨ro, rc, e, _⟩ := ownsRow_shape (h.recs y hy)
    exact ⟨ro, rc, e⟩
  obtain ⟨xr, xc, hxv⟩ := HRec.out x (List.mem_of_getElem? hx)
  have HXV : Hid (x.2 = .slice xr x.1.recs.length xc) := hxv
  rw [hxv] at c5
  clear h hway hx hok hlen hways hcap hblk hpos hxv
  obtain ⟨i0, hi0, hz0, hz1, hz2⟩ := info_parts infoMsg
  have hii : (i : Int) < (mv.length : Int) := by omega
  go_enter Try.func49, Try.ntmps49
  go_wp2_with (first | (at_make; refine wpList_make_own _ rfl _ _ 92 rfl (w.heap.size + 2) 101 i0 _ 6 Try.underlying92 hi0 hz0 hz1 .i64 .i64 _ mv.length rfl rfl rfl (by rw [hz2]; omega) (by unfold maxLen; omega) (by simp) ?_; intro w0 hown0 hgrow0; have hc0 : w0.cell? ⟨b, 77, none⟩ = some (.slice (some ⟨g, 0, none⟩) mv.length cap) := (by rw [hgrow0.cell_far _ (by simp; omega) (by simp)]; simp [World.cell?_alloc_some, hw])))
  have hBW : Below (w.heap.size + 2) ((w.alloc (.cells #[.int .i64 0, .int .i64 0, .int .i64 0, .int .i64 0, .int .i64 0, .slice none 0 0] 101)).alloc
      (.cells #[.int .i64 x.1.kind, .int .i64 x.1.frm, .int .i64 x.1.to, .int .i64 x.1.epoch, .int .i64 x.1.n, .slice xr x.1.recs.length xc] 101)) w0 :=
    (Below.refl _ _).grown hgrow0 (by simp) (by simp)
  generalize hWd : (w.alloc (.cells #[.int .i64 0, .int .i64 0, .int .i64 0, .int .i64 0, .int .i64 0, .slice none 0 0] 101)).alloc
      (.cells #[.int .i64 x.1.kind, .int .i64 x.1.frm, .int .i64 x.1.to, .int .i64 x.1.epoch, .int .i64 x.1.n, .slice xr x.1.recs.length xc] 101) = W at hBW hgrow0
  have HWs : Hid (W.heap.size = w.heap.size + 2) := by show W.heap.size = _; rw [← hWd]; simp
  have HWo : Hid (Below w.heap.size w W) := by
    show Below w.heap.size w W
    rw [← hWd]; exact ((Below.refl _ _).alloc (Nat.le_refl _) _).alloc (by simp) _
  have HW0 : Hid (W.heap[w.heap.size]? = some (.cells #[.int .i64 0, .int .i64 0, .int .i64 0, .int .i64 0, .int .i64 0, .slice none 0 0] 101)) := by
    show W.heap[w.heap.size]? = _
    rw [← hWd]; exact heap_alloc2_old w _ _
  have HW1 : Hid (W.heap[w.heap.size + 1]? = some (.cells #[.int .i64 x.1.kind, .int .i64 x.1.frm, .int .i64 x.1.to, .int .i64 x.1.epoch, .int .i64 x.1.n, .slice xr x.1.recs.length xc] 101)) := by
    show W.heap[w.heap.size + 1]? = _
    rw [← hWd]; exact heap_alloc2_new w _ _
  have HBW : Hid (Below (w.heap.size + 2) W w0) := hBW
  have HOw : Hid (w0.ownsRow (w.heap.size + 2) 101 6 (.slice (some ⟨w.heap.size + 1 + 1, 0, none⟩) 0 mv.length) 0 []) := by
    have h' := hown0
    simp at h'
    exact h'
  clear hWd hBW hown0 hgrow0 c0 c1 c2 c3 c4 c5 hw hfr
  go_loopw [6, 27] (fun v t wr => ∃ k : Nat, k ≤ mv.length ∧ t = .int .i64 k ∧ v = .slice (some ⟨w.heap.size + 1 + 1, 0, none⟩) (gone mv i k).length mv.length ∧
      wr.ownsRow (w.heap.size + 2) 101 6 (.slice (some ⟨w.heap.size + 1 + 1, 0, none⟩) (gone mv i k).length mv.length) (gone mv i k).length (msgCells (gone mv i k)) ∧ Below (w.heap.size + 2) W wr)
    (fun _ t _ => mv.length - (intOf t).toNat)
  case atStart => exact ⟨0, Nat.zero_le _, rfl, by rw [gone_zero]; rfl, by rw [gone_zero]; exact HOw.out, HBW.out⟩
  case round =>
    obtain ⟨k, hk, rfl, rfl, hown, hbel⟩ := hrel
    have HO : Hid (wr.ownsRow (w.heap.size + 2) 101 6 (.slice (some ⟨w.heap.size + 1 + 1, 0, none⟩) (gone mv i k).length mv.length) (gone mv i k).length (msgCells (gone mv i k))) := hown
    have HB : Hid (Below (w.heap.size + 2) W wr) := hbel
    have hszr : w.heap.size + 2 ≤ wr.heap.size := by have := hbel.size; have := HWs.out; omega
    have hgone := gone_le mv i k
    clear hown hbel HOw HBW
    by_cases hkn : k < mv.length
    · have hy : mv[k]? = some mv[k] := by simp [hkn]
      obtain ⟨yr, yc, hyv⟩ := HRec.out mv[k] (List.getElem_mem hkn)
      have hwr : wr.ownsRow 0 101 6 (.slice (some ⟨g, 0, none⟩) mv.length cap) mv.length (msgCells mv) := by
        refine ownsRow_same HW.out fun g' hg' hl' => ?_
        rw [HB.out.block g' (by omega), HWo.out.block g' hl']
      obtain ⟨c0, c1, c2, c3, c4, c5⟩ := msg_cells hwr k _ hy
      have HY : Hid (mv[k]? = some mv[k]) := hy
      clear hwr hy
      generalize mv[k] = y at c0 c1 c2 c3 c4 c5 hyv HY
      rw [hyv] at c5
      have HYV : Hid (y.2 = .slice yr y.1.recs.length yc) := hyv
      clear hyv
      have hglr : g < wr.heap.size := by omega
      by_cases hki : k = i
      · have b1 : ((k : Int) != (i : Int)) = false := by simp [hki]
        have HG : Hid (gone mv i (k + 1) = gone mv i k) := by show gone mv i (k + 1) = _; subst hki; exact gone_at mv k hkn
        clear hki
        go_wp2
        go_roundw
        case rel => exact ⟨k + 1, by omega, by go_num, by rw [HG.out], by rw [HG.out]; exact HO.out.alloc _, HB.out.alloc hszr _⟩
        case measure => simp [intOf]; omega
      · have b1 : ((k : Int) != (i : Int)) = true := by simp; omega
        have HG : Hid (gone mv i (k + 1) = gone mv i k ++ [y]) := gone_other mv i k y HY.out hki
        have hnews := msgRow_one y.1 (.slice yr y.1.recs.length yc) rfl
        clear hki
        go_wp2_with (first | (at_builtin; refine wpList_append_fits _ rfl _ _ 92 rfl (w.heap.size + 2) 101 i0 6 Try.underlying92 hi0 hz1 (w.heap.size + 1 + 1) (gone mv i k).length mv.length (msgCells (gone mv i k)) rfl ((HO.out.alloc _).alloc _) ⟨wr.heap.size + 1, 0, none⟩ 1 1 (msgRow (y.1, .slice yr y.1.recs.length yc)) rfl rfl (World.news_of_block (cs := (msgRow (y.1, .slice yr y.1.recs.length yc)).toArray) (t := 101) (fr := (0, 0)) (heap_alloc2_new wr _ _)) hnews (by omega) ?_; intro w2 hown2 hgrow2))
        go_roundw
        case rel =>
          refine ⟨k + 1, by omega, by go_num, by rw [HG.out]; simp, ?_, ?_⟩
          · rw [HG.out, msgCells_append]
            have e : msgCells [y] = msgRow (y.1, .slice yr y.1.recs.length yc) := by rw [← HYV.out]; simp [msgCells]
            rw [e]; simpa using hown2
          · exact ((HB.out.alloc hszr _).alloc (by simp; omega) _).grown hgrow2 (by simp; omega) (by simp)
        case measure => simp [intOf]; omega
    · have : k = mv.length := by omega
      subst this
      have hG := gone_all mv i mv.length (Nat.le_refl _)
      have z : ∀ j, wr.cell? ⟨w.heap.size, j, none⟩ = (#[.int .i64 0, .int .i64 0, .int .i64 0, .int .i64 0, .int .i64 0, .slice none 0 0] : Array Value)[j]? := fun j => cell_of_row _ _ _ _ _ (0, 0) ((HB.out.block _ (by omega)).trans HW0.out)
      have m : ∀ j, wr.cell? ⟨w.heap.size + 1, j, none⟩ = (#[.int .i64 x.1.kind, .int .i64 x.1.frm, .int .i64 x.1.to, .int .i64 x.1.epoch, .int .i64 x.1.n, .slice xr x.1.recs.length xc] : Array Value)[j]? := fun j => cell_of_row _ _ _ _ _ (0, 0) ((HB.out.block _ (by omega)).trans HW1.out)
      have zf : ∀ j, wr.frozen? ⟨w.heap.size, j, none⟩ = false := fun j => by simp [World.frozen?, (HB.out.block _ (by omega)).trans HW0.out]
      have z0 := z 0; have z1 := z 1; have z2 := z 2; have z3 := z 3; have z4 := z 4; have z5 := z 5
      have m0 := m 0; have m1 := m 1; have m2 := m 2; have m3 := m 3; have m4 := m 4; have m5 := m 5
      have f0 := zf 0; have f1 := zf 1; have f2 := zf 2; have f3 := zf 3; have f4 := zf 4; have f5 := zf 5
      simp at z0 z1 z2 z3 z4 z5 m0 m1 m2 m3 m4 m5
      clear z m zf
      have hRw : Rep wr S b c lv ev (.slice (some ⟨g, 0, none⟩) mv.length cap) mv := H.out.same fun k' _ hk' => by rw [HB.out.block k' (by omega), HWo.out.block k' hk']
      have cw := hRw.cWay
      have fw := hRw.free 77
      clear hRw
      have nb0 : ¬ b = w.heap.size := by omega
      have nb1 : ¬ b = w.heap.size + 1 := by omega
      go_wp2
      refine bodyPost_ret (v := .agg #[.int .i64 x.1.kind, .int .i64 x.1.frm, .int .i64 x.1.to, .int .i64 x.1.epoch, .int .i64 x.1.n, .slice xr x.1.recs.length xc]) (by simp [results, Try.results49, go_sem, *]) rfl ⟨by rw [HXV.out], ?_⟩
      have hbw : Below w.heap.size w wr := HWo.out.trans (HB.out.mono (by omega))
      have hown' := HO.out
      rw [hG] at hown'
      have R := H.out.listed hbw (.slice (some ⟨w.heap.size + 1 + 1, 0, none⟩) (mv.eraseIdx i).length mv.length) (mv.eraseIdx i) (w.heap.size + 1 + 1) (fun y hy => List.mem_of_mem_eraseIdx hy) rfl (by omega) ⟨hown'.1, orR hown'.2 fun ⟨g', cap', cur, e, _, r⟩ => ⟨g', cap', cur, e, Nat.zero_le _, r⟩⟩ w.heap.size (Nat.le_refl _) (by omega)
        ((((((frT _ _ 0 (.int .i64 x.1.kind)).then (frT _ _ 1 (.int .i64 x.1.frm))).then (frT _ _ 2 (.int .i64 x.1.to))).then (frT _ _ 3 (.int .i64 x.1.epoch))).then (frT _ _ 4 (.int .i64 x.1.n))).then (frT _ _ 5 (.slice xr x.1.recs.length xc)))
      exact ⟨⟨_, by rw [HFin.out]; exact R.1⟩, R.2.1, R.2.2 _ _ _ (H.out.recs x (List.mem_of_getElem? HX.out))⟩
end
end Go.Proofs.Ythpjcmilfipbaaa

namespace Go.Proofs.Ythpjcmilfipbaaa
set_option linter.unusedVariables false
set_option linter.unusedSimpArgs false
open Go.RowKit
section
variable {w : World} {S : Nat → Prop} {b : Nat} {c : Clu} {lv : Nat → Value} {ev uv : Value} {mv : List (Msg × Value)}

theorem underB_at (h : Rep w S b c lv ev uv mv) {i : Int} (hu : underB c i = true) : ∃ n x, i = ((n : Nat) : Int) ∧ mv[n]? = some x ∧ c.ways[n]? = some x.1 := by
  simp [underB] at hu
  obtain ⟨n, rfl⟩ := Int.eq_ofNat_of_zero_le hu.1
  have hl := h.ways_len
  have hn : n < mv.length := by omega
  refine ⟨n, mv[n], rfl, by simp [hn], ?_⟩
  rw [← h.mvs]; simp [hn]

set_option maxHeartbeats 800000 in
theorem drop_any (h : Rep w S b c lv ev uv mv) (hok : Ok c) (i : Int) :
    Calls Try.prog 20 #[.pointer (some ⟨b, 0, none⟩), .int .i64 i] w fun e w' =>
      e = .returned (.int .i64 (drop c i).2) ∧ (∃ uv' mv', Rep w' (Ext S w) b (drop c i).1 lv ev uv' mv') ∧ Fr S w w' := by
  have H : Hid (Rep w S b c lv ev uv mv) := h
  have HO : Hid (Ok c) := hok
  cases hu : underB c i
  · have HF : Hid (drop c i = (c, 13)) := by show drop c i = _; simp [drop, hu]
    clear h hok
    go_enter Try.func20, Try.ntmps20
    go_wp2_with (first | (go_at_call 48; refine (isUnder_any H.out _).mono ?_; rintro e w' ⟨rfl, rfl⟩))
    go_ret
    rw [HF.out]
    exact ⟨rfl, ⟨_, _, H.out.mono fun _ _ e => Or.inl e⟩, Fr.refl _ _⟩
  · obtain ⟨n, x, rfl, hx, _⟩ := underB_at h hu
    have HF : Hid (drop c n = (takeOut c n, 0)) := by show drop c n = _; simp [drop, hu]
    have HX : Hid (mv[n]? = some x) := hx
    clear h hok hx
    go_enter Try.func20, Try.ntmps20
    go_wp2_with (first | (go_at_call 48; refine (isUnder_any H.out _).mono ?_; rintro e w' ⟨rfl, rfl⟩))
    refine (takeOut_any H.out HO.out n x HX.out).mono ?_
    rintro e w2 ⟨rfl, ⟨uv', hR⟩, hFr, _⟩
    have HR : Hid (Rep w2 (Ext S w') b (takeOut c n) lv ev uv' (mv.eraseIdx n)) := hR
    have HFr : Hid (Fr S w' w2) := hFr
    clear hR hFr
    go_wp2
    go_ret
    rw [HF.out]
    exact ⟨rfl, ⟨_, _, HR.out⟩, HFr.out⟩

set_option maxHeartbeats 800000 in
set_option maxRecDepth 100000 in
theorem twice_any (h : Rep w S b c lv ev uv mv) (hok : Ok c) (i : Int) :
    Calls Try.prog 21 #[.pointer (some ⟨b, 0, none⟩), .int .i64 i] w fun e w' =>
      e = .returned (.int .i64 (twice c i).2) ∧ (∃ uv' mv', Rep w' (Ext S w) b (twice c i).1 lv ev uv' mv') ∧ Fr S w w' := by
  have H : Hid (Rep w S b c lv ev uv mv) := h
  have HO : Hid (Ok c) := hok
  cases hu : underB c i
  · have HF : Hid (twice c i = (c, 13)) := by show twice c i = _; simp [twice, hu]
    clear h hok
    go_enter Try.func21, Try.ntmps21
    go_wp2_with (first | (go_at_call 48; refine (isUnder_any H.out _).mono ?_; rintro e w' ⟨rfl, rfl⟩))
    go_ret
    rw [HF.out]
    exact ⟨rfl, ⟨_, _, H.out.mono fun _ _ e => Or.inl e⟩, Fr.refl _ _⟩
  · obtain ⟨n, x, rfl, hx, hxw⟩ := underB_at h hu
    have HF : Hid (twice c n = (send c x.1, 0)) := by show twice c n = _; simp [twice, hu, hxw]
    have hn : n < mv.length := (List.getElem?_eq_some_iff.1 hx).1
    have hw := h.cWay
    have hb := h.lt
    have hway := h.way
    obtain ⟨ao, cap, hu', hcap, hblk, hpos⟩ := ownsRow_shape h.way
    obtain ⟨g, rfl⟩ := hpos (by omega)
    subst hu'
    obtain ⟨c0, c1, c2, c3, c4, c5⟩ := msg_cells hway n x hx
    have hgl := ownsRow_lt hway (g := g) rfl
    have hmem := List.mem_of_getElem? hx
    have HRo : Hid (w.ownsRow 0 36 3 x.2 x.1.recs.length (recCells x.1.recs)) := h.recs x hmem
    have HRS : Hid (∀ g, x.2.ownBlock = some g → S g) := fun g hg => h.recS x g hmem hg
    have HRD : Hid (∀ k g, k < 5 → x.2.ownBlock = some g → (lv k).ownBlock ≠ some g) := fun k g hk hg => h.recD x k g hmem hk hg
    obtain ⟨xr, xc, hxv, _⟩ := ownsRow_shape HRo.out
    rw [hxv] at c5 HRo HRS HRD
    have hni : (n : Int) < (mv.length : Int) := by omega
    clear h hok hx hxw hway hcap hblk hpos hxv hmem
    go_enter Try.func21, Try.ntmps21
    go_wp2_with (first | (go_at_call 48; refine (isUnder_any H.out _).mono ?_; rintro e w' ⟨rfl, rfl⟩))
    refine (send_any (H.out.alloc _) HO.out x.1 _ (HRo.out.alloc _) HRS.out HRD.out).mono ?_
    rintro e w2 ⟨rfl, ⟨uv', mv', hR⟩, hFr⟩
    have HR : Hid (Rep w2 (Ext S w') b (send c x.1) lv ev uv' mv') := hR.mono fun k _ e => orR e fun e => by simp at e; omega
    have HFr : Hid (Fr S w' w2) := (Fr.alloc _ _ _).then hFr
    clear hR hFr
    go_wp2
    go_ret
    rw [HF.out]
    exact ⟨rfl, ⟨_, _, HR.out⟩, HFr.out⟩
end
end Go.Proofs.Ythpjcmilfipbaaa

namespace Go.Proofs.Ythpjcmilfipbaaa
set_option linter.unusedVariables false
set_option linter.unusedSimpArgs false
open Go.RowKit
def seeRow (m : Msg) : List Value := [.int .i64 m.kind, .int .i64 m.frm, .int .i64 m.to, .int .i64 m.epoch, .int .i64 m.n]
def seeCells (l : List Msg) : List Value := l.flatMap seeRow
theorem seeCells_append (l m : List Msg) : seeCells (l ++ m) = seeCells l ++ seeCells m := by simp [seeCells]
theorem seeCells_len (l : List Msg) : (seeCells l).length = l.length * 5 := flat_len _ 5 (fun _ => rfl) l
theorem seeRow_one (m : Msg) : ∀ u ∈ seeRow m, u.oneCell' = true := by
  intro u hu
  simp only [seeRow, List.mem_cons, List.not_mem_nil, or_false] at hu
  rcases hu with rfl | rfl | rfl | rfl | rfl <;> rfl
theorem infoSee : (Try.prog.info? 109).map (fun i => (i.zero, i.size, i.bytes)) = some (some (.agg #[.int .i64 0, .int .i64 0, .int .i64 0, .int .i64 0, .int .i64 0]), 5, 40) := by kernel_rfl
section
variable {w : World} {S : Nat → Prop} {b : Nat} {c : Clu} {lv : Nat → Value} {ev uv : Value} {mv : List (Msg × Value)}

set_option maxHeartbeats 3200000 in
set_option maxRecDepth 100000 in
theorem messages_any (h : Rep w S b c lv ev uv mv) (hok : Ok c) :
    Calls Try.prog 41 #[.pointer (some ⟨b, 0, none⟩)] w fun e w' =>
      ∃ v, e = .returned (.tuple #[v, .int .i64 0]) ∧ w'.ownsRow w.heap.size 109 5 v c.ways.length (seeCells c.ways) ∧ Below w.heap.size w w' := by
  have hw := h.cWay
  have hb := h.lt
  have hway := h.way
  have hlen := h.ways_len
  have hways := hok.ways
  have HM : Hid (mv.map Prod.fst = c.ways) := h.mvs
  obtain ⟨ao, cap, hu, hcap, hblk, hpos⟩ := ownsRow_shape h.way
  subst hu
  have HP : Hid (0 < mv.length → ∃ g, ao = some ⟨g, 0, none⟩) := hpos
  have H : Hid (Rep w S b c lv ev (.slice ao mv.length cap) mv) := h
  have HW : Hid (w.ownsRow 0 101 6 (.slice ao mv.length cap) mv.length (msgCells mv)) := hway
  have hml : mv.length ≤ 50 := by omega
  have HRec : Hid (∀ y, y ∈ mv → ∃ ro rc, y.2 = .slice ro y.1.recs.length rc) := by
    intro y hy
    obtain ⟨ro, rc, e, _⟩ := ownsRow_shape (h.recs y hy)
    exact ⟨ro, rc, e⟩
  have HL : Hid (mv.length = c.ways.length) := hlen
  clear h hway hok hlen hways hcap hblk hpos
  obtain ⟨i0, hi0, hz0, hz1, hz2⟩ := info_parts infoSee
  go_enter Try.func41, Try.ntmps41
  go_wp2_with (first | (at_make; refine wpList_make_own _ rfl _ _ 82 rfl w.heap.size 109 i0 _ 5 Try.underlying82 hi0 hz0 hz1 .i64 .i64 _ mv.length rfl rfl rfl (by rw [hz2]; omega) (by unfold maxLen; omega) (by simp) ?_; intro w0 hown0 hgrow0; have hc0 : w0.cell? ⟨b, 77, none⟩ = some (.slice ao mv.length cap) := (by rw [hgrow0.cell_far _ (by simp; omega) (by simp)]; simp [hw])))
  have HOw : Hid (w0.ownsRow w.heap.size 109 5 (.slice (some ⟨w.heap.size, 0, none⟩) 0 mv.length) 0 []) := hown0
  have HBW : Hid (Below w.heap.size w w0) := (Below.refl _ _).grown hgrow0 (by simp) (by simp)
  clear hown0 hgrow0 hw
  go_loopw [4, 20] (fun v t wr => ∃ k : Nat, k ≤ mv.length ∧ t = .int .i64 k ∧ v = .slice (some ⟨w.heap.size, 0, none⟩) k mv.length ∧
      wr.ownsRow w.heap.size 109 5 (.slice (some ⟨w.heap.size, 0, none⟩) k mv.length) k (seeCells ((mv.take k).map Prod.fst)) ∧ Below w.heap.size w wr)
    (fun _ t _ => mv.length - (intOf t).toNat)
  case atStart => exact ⟨0, Nat.zero_le _, rfl, rfl, HOw.out, HBW.out⟩
  case round =>
    obtain ⟨k, hk, rfl, rfl, hown, hbel⟩ := hrel
    have HO : Hid (wr.ownsRow w.heap.size 109 5 (.slice (some ⟨w.heap.size, 0, none⟩) k mv.length) k (seeCells ((mv.take k).map Prod.fst))) := hown
    have HB : Hid (Below w.heap.size w wr) := hbel
    have hszr : w.heap.size ≤ wr.heap.size := hbel.size
    clear hown hbel HOw HBW
    by_cases hkn : k < mv.length
    · have hy : mv[k]? = some mv[k] := by simp [hkn]
      obtain ⟨yr, yc, hyv⟩ := HRec.out mv[k] (List.getElem_mem hkn)
      obtain ⟨g, rfl⟩ := HP.out (by omega)
      have hgl := ownsRow_lt HW.out (g := g) rfl
      have hwr : wr.ownsRow 0 101 6 (.slice (some ⟨g, 0, none⟩) mv.length cap) mv.length (msgCells mv) :=
        ownsRow_same HW.out fun g' hg' hl' => HB.out.block g' hl'
      obtain ⟨c0, c1, c2, c3, c4, c5⟩ := msg_cells hwr k _ hy
      have HT : Hid ((mv.take (k + 1)).map Prod.fst = (mv.take k).map Prod.fst ++ [mv[k].1]) := by
        show (mv.take (k + 1)).map Prod.fst = _
        rw [List.take_succ_eq_append_getElem hkn, List.map_append]; rfl
      clear hwr hy
      generalize mv[k] = y at c0 c1 c2 c3 c4 c5 hyv HT
      rw [hyv] at c5
      clear hyv
      have hglr : g < wr.heap.size := by omega
      have hnews := seeRow_one y.1
      go_wp2_with (first | (at_builtin; refine wpList_append_fits _ rfl _ _ 82 rfl w.heap.size 109 i0 5 Try.underlying82 hi0 hz1 w.heap.size k mv.length (seeCells ((mv.take k).map Prod.fst)) rfl ((HO.out.alloc _).alloc _) ⟨wr.heap.size + 1, 0, none⟩ 1 1 (seeRow y.1) rfl rfl (World.news_of_block (cs := (seeRow y.1).toArray) (t := 109) (fr := (0, 0)) (heap_alloc2_new wr _ _)) hnews (by omega) ?_; intro w2 hown2 hgrow2))
      go_roundw
      case rel =>
        refine ⟨k + 1, by omega, by go_num, rfl, ?_, ?_⟩
        · rw [HT.out, seeCells_append]
          simpa [seeCells] using hown2
        · exact ((HB.out.alloc hszr _).alloc (by simp; omega) _).grown hgrow2 (by simp; omega) (by simp)
      case measure => simp [intOf]; omega
    · have : k = mv.length := by omega
      subst this
      go_wp2
      go_ret2
      refine ⟨_, rfl, ?_, HB.out⟩
      have := HO.out
      rw [List.take_length, HM.out] at this
      rw [← HL.out]; exact this
end
end Go.Proofs.Ythpjcmilfipbaaa

namespace Go.Proofs.Ythpjcmilfipbaaa
set_option linter.unusedVariables false
set_option linter.unusedSimpArgs false
open Go.RowKit
section
variable {w : World} {S : Nat → Prop} {b : Nat} {c : Clu} {lv : Nat → Value} {ev uv : Value} {mv : List (Msg × Value)}
set_option maxHeartbeats 1600000 in
set_option maxRecDepth 100000 in
theorem deliver_any (h : Rep w S b c lv ev uv mv) (hok : Ok c) (hpl : ∀ m ∈ c.ways, Fit m) (hl60 : ∀ m ∈ c.ways, ∀ k, k < 5 → m.kind = 8 → m.n = ((c.nodes k).log.length : Int) → (c.nodes k).log.length < 60) (i : Int) :
    Calls Try.prog 52 #[.pointer (some ⟨b, 0, none⟩), .int .i64 i] w fun e w' =>
      e = .returned (.int .i64 (deliver c i).2) ∧ (∃ lv' uv' mv', Rep w' (Ext S w) b (deliver c i).1 lv' ev uv' mv') ∧ Fr S w w' := by
  have H := hidP h
  have HO := hidP hok
  cases hu : underB c i
  · have HF := hidP (show deliver c i = (c, 13) by simp [deliver, hu])
    clear h hok hpl hl60
    go_enter Try.func52, Try.ntmps52
    go_wp2_with (first | (go_at_call 48; refine (isUnder_any H.out _).mono ?_; rintro e w' ⟨rfl, hw1⟩; rw [hw1]; clear hw1))
    go_ret
    rw [HF.out]
    exact ⟨rfl, ⟨_, _, _, H.out.mono fun _ _ e => Or.inl e⟩, Fr.refl _ _⟩
  · obtain ⟨n, x, rfl, hx, hcx⟩ := underB_at h hu
    have hmem := List.mem_of_getElem? hcx
    have HF := hidP (show deliver c n = (takeIn (takeOut c n) x.1, 0) by simp [deliver, hu, hcx])
    have HX := hidP hx
    have HP := hidP (hpl _ hmem)
    have H60 := hidP (hl60 _ hmem)
    have HOT := hidP (show Ok (takeOut c n) from ⟨hok.log, by show (c.ways.eraseIdx n).length ≤ 50; have := hok.ways; rw [List.length_eraseIdx]; split <;> omega, hok.eps, hok.mem⟩)
    obtain ⟨ro, rc, hxv, _⟩ := ownsRow_shape (h.recs x (List.mem_of_getElem? hx))
    have HXV := hidP hxv
    have HT := hidP (takeOut_any h hok n x hx)
    rw [hxv] at HT
    clear h hok hx hpl hl60 hcx hmem hxv
    go_enter Try.func52, Try.ntmps52
    go_wp2_with (first | (go_at_call 48; refine (isUnder_any H.out _).mono ?_; rintro e w' ⟨rfl, hw1⟩; rw [hw1]; clear hw1))
    refine HT.out.mono ?_
    rintro e w2 ⟨rfl, ⟨uv2, hR2⟩, hF2, hrow⟩
    have HR2 := hidP hR2
    have HF2 := hidP hF2
    have HTI := hidP (fun W (hW : Below w2.heap.size w2 W) => takeIn_any (hR2.below hW) HOT.out x.1 HP.out (.slice ro x.1.recs.length rc) (ownsRow_same (w' := W) hrow fun g _ hl => hW.block g hl) H60.out)
    unfold msgVal at HTI
    clear hR2 hF2 hrow HT
    go_wp2_with fail
    refine (HTI.out _ ((Below.refl _ w2).alloc (Nat.le_refl _) _)).mono ?_
    rintro e w3 ⟨rfl, ⟨lv3, uv3, mv3, hR3⟩, hF3⟩
    have HR3 := hidP hR3
    have HF3 := hidP hF3
    have hs2 : w.heap.size ≤ w2.heap.size := HF2.out.size
    clear hR3 hF3
    go_wp2
    go_ret
    rw [HF.out]
    refine ⟨rfl, ⟨lv3, uv3, mv3, HR3.out.mono fun q _ e => ?_⟩, (HF2.out.then (Fr.alloc _ _ _)).trans HF3.out⟩
    rcases e with e | e
    · exact e
    · exact Or.inr (by simp at e; omega)
end
set_option maxHeartbeats 800000 in
theorem produce_nilP (n p s v : Int) (w : World) :
    Calls Try.prog 18 #[.pointer none, .int .i64 n, .int .i64 p, .int .i64 s, .int .i64 v] w fun e w' => e = .returned (.tuple #[.int .i64 0, .bool false, .int .i64 1]) ∧ Below w.heap.size w w' := by
  go_enter Try.func18, Try.ntmps18
  go_wp2
  exact bodyPost_ret (v := .tuple #[.int .i64 0, .bool false, .int .i64 1]) (by simp [results, Try.results18, go_sem, *]) rfl ⟨rfl, by first | exact Below.refl _ _ | exact (Below.refl _ _).alloc (Nat.le_refl _) _⟩
set_option maxHeartbeats 800000 in
theorem fetch_nilP (n o : Int) (w : World) :
    Calls Try.prog 19 #[.pointer none, .int .i64 n, .int .i64 o] w fun e w' => e = .returned (.tuple #[.agg #[.int .i64 0, .int .i64 0, .int .i64 0], .int .i64 1]) ∧ Below w.heap.size w w' := by
  go_enter Try.func19, Try.ntmps19
  go_wp2
  exact bodyPost_ret (v := .tuple #[.agg #[.int .i64 0, .int .i64 0, .int .i64 0], .int .i64 1]) (by simp [results, Try.results19, go_sem, *]) rfl ⟨rfl, by first | exact Below.refl _ _ | exact (Below.refl _ _).alloc (Nat.le_refl _) _⟩
set_option maxHeartbeats 800000 in
theorem node_nilP (n : Int) (w : World) :
    Calls Try.prog 22 #[.pointer none, .int .i64 n] w fun e w' => e = .returned (.tuple #[.agg #[.bool false, .int .i64 0, .int .i64 0, .int .i64 0, .int .i64 0, .int .i64 0], .int .i64 1]) ∧ Below w.heap.size w w' := by
  go_enter Try.func22, Try.ntmps22
  go_wp2
  exact bodyPost_ret (v := .tuple #[.agg #[.bool false, .int .i64 0, .int .i64 0, .int .i64 0, .int .i64 0, .int .i64 0], .int .i64 1]) (by simp [results, Try.results22, go_sem, *]) rfl ⟨rfl, by first | exact Below.refl _ _ | exact (Below.refl _ _).alloc (Nat.le_refl _) _⟩
set_option maxHeartbeats 800000 in
theorem messages_nilP (w : World) :
    Calls Try.prog 41 #[.pointer none] w fun e w' => e = .returned (.tuple #[.slice none 0 0, .int .i64 1]) ∧ Below w.heap.size w w' := by
  go_enter Try.func41, Try.ntmps41
  go_wp2
  exact bodyPost_ret (v := .tuple #[.slice none 0 0, .int .i64 1]) (by simp [results, Try.results41, go_sem, *]) rfl ⟨rfl, by first | exact Below.refl _ _ | exact (Below.refl _ _).alloc (Nat.le_refl _) _⟩
set_option maxHeartbeats 800000 in
theorem deliver_nilP (i : Int) (w : World) :
    Calls Try.prog 52 #[.pointer none, .int .i64 i] w fun e w' => e = .returned (.int .i64 1) ∧ Below w.heap.size w w' := by
  go_enter Try.func52, Try.ntmps52
  go_wp2
  exact bodyPost_ret (v := .int .i64 1) (by simp [results, Try.results52, go_sem, *]) rfl ⟨rfl, by first | exact Below.refl _ _ | exact (Below.refl _ _).alloc (Nat.le_refl _) _⟩
set_option maxHeartbeats 800000 in
theorem drop_nilP (i : Int) (w : World) :
    Calls Try.prog 20 #[.pointer none, .int .i64 i] w fun e w' => e = .returned (.int .i64 1) ∧ Below w.heap.size w w' := by
  go_enter Try.func20, Try.ntmps20
  go_wp2
  exact bodyPost_ret (v := .int .i64 1) (by simp [results, Try.results20, go_sem, *]) rfl ⟨rfl, by first | exact Below.refl _ _ | exact (Below.refl _ _).alloc (Nat.le_refl _) _⟩
set_option maxHeartbeats 800000 in
theorem twice_nilP (i : Int) (w : World) :
    Calls Try.prog 21 #[.pointer none, .int .i64 i] w fun e w' => e = .returned (.int .i64 1) ∧ Below w.heap.size w w' := by
  go_enter Try.func21, Try.ntmps21
  go_wp2
  exact bodyPost_ret (v := .int .i64 1) (by simp [results, Try.results21, go_sem, *]) rfl ⟨rfl, by first | exact Below.refl _ _ | exact (Below.refl _ _).alloc (Nat.le_refl _) _⟩
set_option maxHeartbeats 800000 in
theorem crash_nilP (i : Int) (w : World) :
    Calls Try.prog 54 #[.pointer none, .int .i64 i] w fun e w' => e = .returned (.int .i64 1) ∧ Below w.heap.size w w' := by
  go_enter Try.func54, Try.ntmps54
  go_wp2
  exact bodyPost_ret (v := .int .i64 1) (by simp [results, Try.results54, go_sem, *]) rfl ⟨rfl, by first | exact Below.refl _ _ | exact (Below.refl _ _).alloc (Nat.le_refl _) _⟩
set_option maxHeartbeats 800000 in
theorem restart_nilP (i : Int) (w : World) :
    Calls Try.prog 55 #[.pointer none, .int .i64 i] w fun e w' => e = .returned (.int .i64 1) ∧ Below w.heap.size w w' := by
  go_enter Try.func55, Try.ntmps55
  go_wp2
  exact bodyPost_ret (v := .int .i64 1) (by simp [results, Try.results55, go_sem, *]) rfl ⟨rfl, by first | exact Below.refl _ _ | exact (Below.refl _ _).alloc (Nat.le_refl _) _⟩
set_option maxHeartbeats 800000 in
theorem reconf_nilP (q l : Int) (w : World) :
    Calls Try.prog 29 #[.pointer none, .int .i64 q, .int .i64 l] w fun e w' => e = .returned (.int .i64 1) ∧ Below w.heap.size w w' := by
  go_enter Try.func29, Try.ntmps29
  go_wp2
  exact bodyPost_ret (v := .int .i64 1) (by simp [results, Try.results29, go_sem, *]) rfl ⟨rfl, by first | exact Below.refl _ _ | exact (Below.refl _ _).alloc (Nat.le_refl _) _⟩
set_option maxHeartbeats 800000 in
theorem remind_nilP (w : World) :
    Calls Try.prog 56 #[.pointer none] w fun e w' => e = .returned (.int .i64 1) ∧ Below w.heap.size w w' := by
  go_enter Try.func56, Try.ntmps56
  go_wp2
  exact bodyPost_ret (v := .int .i64 1) (by simp [results, Try.results56, go_sem, *]) rfl ⟨rfl, by first | exact Below.refl _ _ | exact (Below.refl _ _).alloc (Nat.le_refl _) _⟩
set_option maxHeartbeats 800000 in
theorem config_nilP (w : World) :
    Calls Try.prog 31 #[.pointer none] w fun e w' => e = .returned (.tuple #[.agg #[.int .i64 0, .int .i64 0, .int .i64 0, .int .i64 0], .int .i64 1]) ∧ Below w.heap.size w w' := by
  go_enter Try.func31, Try.ntmps31
  go_wp2
  exact bodyPost_ret (v := .tuple #[.agg #[.int .i64 0, .int .i64 0, .int .i64 0, .int .i64 0], .int .i64 1]) (by simp [results, Try.results31, go_sem, *]) rfl ⟨rfl, by first | exact Below.refl _ _ | exact (Below.refl _ _).alloc (Nat.le_refl _) _⟩
end Go.Proofs.Ythpjcmilfipbaaa
