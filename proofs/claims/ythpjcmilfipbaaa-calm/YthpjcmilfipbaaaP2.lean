/- My own text: several texts in one. -/
import Derived.Test.YthpjcmilfipbaaaP1
namespace Go.Proofs.Ythpjcmilfipbaaa
set_option linter.unusedVariables false
set_option linter.unusedSimpArgs false
open Go.RowKit

theorem infoMsg : (Try.prog.info? 101).map (fun i => (i.zero, i.size, i.bytes)) = some (some (.agg #[.int .i64 0, .int .i64 0, .int .i64 0, .int .i64 0, .int .i64 0, .slice none 0 0]), 6, 64) := by kernel_rfl
theorem infoRec : (Try.prog.info? 36).map (fun i => (i.zero, i.size, i.bytes)) = some (some (.agg #[.int .i64 0, .int .i64 0, .int .i64 0]), 3, 24) := by kernel_rfl

/-- The cluster's block behind a store. -/
theorem Cells.setWay {cs : Array Value} {n : Nat → Nd} {a : Int} {lv : Nat → Value} {ev uv : Value} (h : Cells cs n a lv ev uv) (uv' : Value) : Cells (cs.setIfInBounds 77 uv') n a lv ev uv' :=
  h.put 77 uv' (by omega) (fun i hi => if_neg (by omega)) (fun i hi => if_neg (by omega)) (fun i hi => if_neg (by omega)) (fun i hi => if_neg (by omega)) (fun i hi => if_neg (by omega)) (fun i j hi hj => if_neg (by omega)) (fun i j hi hj => if_neg (by omega))
    (if_neg (by omega)) (if_neg (by omega)) (if_pos rfl)
theorem msgRow_one (m : Msg) (rv : Value) (h : rv.oneCell' = true) : ∀ u ∈ msgRow (m, rv), u.oneCell' = true := by
  intro u hu
  simp only [msgRow, List.mem_cons, List.not_mem_nil, or_false] at hu
  rcases hu with rfl | rfl | rfl | rfl | rfl | rfl <;> first | rfl | exact h

section
variable {w : World} {S : Nat → Prop} {b : Nat} {c : Clu} {lv : Nat → Value} {ev uv : Value} {mv : List (Msg × Value)}
/-- The list of messages is another one now: all other blocks of the cluster are as they were. -/
theorem Rep.newWay {w' : World} (h : Rep w S b c lv ev uv mv) {S' : Nat → Prop} (hS : ∀ k, S k → S' k) (uv' : Value) (mv' : List (Msg × Value)) (ways' : List Msg)
    (hk : ∀ k, k < w.heap.size → k ≠ b → uv.ownBlock ≠ some k → w'.heap[k]? = w.heap[k]?)
    (hb : ∀ cs, w.heap[b]? = some (.cells cs 94 (0, 0)) → w'.heap[b]? = some (.cells (cs.setIfInBounds 77 uv') 94 (0, 0)))
    (hown : w'.ownsRow 0 101 6 uv' mv'.length (msgCells mv')) (hS' : ∀ g, uv'.ownBlock = some g → S' g) (hmv : mv'.map Prod.fst = ways')
    (hr : ∀ x, x ∈ mv' → w'.ownsRow 0 36 3 x.2 x.1.recs.length (recCells x.1.recs)) (hrS : ∀ x g, x ∈ mv' → x.2.ownBlock = some g → S' g)
    (hrD : ∀ x k g, x ∈ mv' → k < 5 → x.2.ownBlock = some g → (lv k).ownBlock ≠ some g) : Rep w' S' b { c with ways := ways' } lv ev uv' mv' := by
  obtain ⟨cs, hbl, hc⟩ := h.blk
  have nuv : ∀ {g : Nat} {cur : Array Value} {e : TypeId}, w.heap[g]? = some (.cells cur e (0, 0)) → e ≠ 101 → uv.ownBlock ≠ some g := by
    intro g cur e hg he hu
    obtain ⟨cu, hcu⟩ := ownsRow_block h.way hu
    exact ne_of_type hg hcu he rfl
  have old : ∀ {v : Value} {n : Nat} {xs : List Value} {e sz : Nat}, w.ownsRow 0 e sz v n xs → e ≠ 101 → e ≠ 94 → w'.ownsRow 0 e sz v n xs := by
    intro v n xs e sz ho h1 h2
    refine ownsRow_same ho fun g hg hl => ?_
    obtain ⟨cu, hcu⟩ := ownsRow_block ho hg
    exact hk g hl (ne_of_type hcu hbl h2) (nuv hcu h1)
  exact { blk := ⟨_, hb cs hbl, hc.setWay uv'⟩, inb := hS _ h.inb
          logs := fun k h5 => old (h.logs k h5) (by decide) (by decide), logS := fun k g h5 hg => hS _ (h.logS k g h5 hg), logD := h.logD
          eps := old h.eps (by decide) (by decide), epS := fun g hg => hS _ (h.epS g hg)
          way := hown, wayS := hS', mvs := hmv, recs := hr, recS := hrS, recD := hrD }

/-- What an append to the list of messages, and the store of the new list, come to. -/
theorem Rep.sent {W w1 : World} (h : Rep w S b c lv ev uv mv) (hW : Fr No w W) (m : Msg) (rv v' : Value) (n gg : Nat) (hn : n = mv.length + 1) (hv' : v'.ownBlock = some gg)
    (hrv : w.ownsRow 0 36 3 rv m.recs.length (recCells m.recs)) (hrS : ∀ g, rv.ownBlock = some g → S g)
    (hrD : ∀ k g, k < 5 → rv.ownBlock = some g → (lv k).ownBlock ≠ some g)
    (hown : w1.ownsRow 0 101 6 v' n (msgCells mv ++ msgRow (m, rv))) (hgrow : W.grownBy w1 uv.ownBlock) (hat : uv.ownBlock = some gg ∨ w.heap.size ≤ gg) :
    Rep (w1.setCell ⟨b, 77, none⟩ v') (Ext S w) b { c with ways := c.ways ++ [m] } lv ev v' (mv ++ [(m, rv)]) ∧ Fr S w (w1.setCell ⟨b, 77, none⟩ v') := by
  obtain ⟨cs, hbl, hc⟩ := h.blk
  have hb := h.lt
  have hblkne : ∀ {g : Nat} {v : Value} {k : Nat} {xs : List Value} {e sz : Nat}, w.ownsRow 0 e sz v k xs → v.ownBlock = some g → e ≠ 94 → g ≠ b := by
    intro g v k xs e sz ho hg he
    obtain ⟨cu, hcu⟩ := ownsRow_block ho hg
    exact ne_of_type hcu hbl he
  have hgb : gg ≠ b := by
    rcases hat with e | e
    · exact hblkne h.way e (by decide)
    · omega
  have hold : ∀ k, k < w.heap.size → uv.ownBlock ≠ some k → w1.heap[k]? = w.heap[k]? := fun k hk hu =>
    (hgrow.block k (Nat.lt_of_lt_of_le hk hW.size) (fun e => hu e.symm)).trans (hW.block k hk (fun e => e))
  have hset : ∀ k, k ≠ b → (w1.setCell ⟨b, 77, none⟩ v').heap[k]? = w1.heap[k]? := fun k hk => Below.heap_setCell _ _ _ _ hk
  have hub : uv.ownBlock ≠ some b := fun e => hblkne h.way e (by decide) rfl
  refine ⟨?_, ?_⟩
  · refine h.newWay (fun k hk => Or.inl hk) v' (mv ++ [(m, rv)]) _ (fun k hk hkb hu => (hset k hkb).trans (hold k hk hu)) ?_ ?_ ?_ (by simp [h.mvs]) ?_ ?_ ?_
    · intro cs' hcs'
      exact heap_setCell_at _ _ _ _ _ _ _ ((hold b hb hub).trans hcs')
    · have := ownsRow_same (w' := w1.setCell ⟨b, 77, none⟩ v') hown (fun g hg _ => hset g (by rw [hv'] at hg; simp at hg; omega))
      rw [msgCells_append, hn] at *
      simpa [msgCells] using this
    · intro g hg
      rw [hv'] at hg; simp at hg; subst hg
      rcases hat with e | e
      · exact Or.inl (h.wayS _ e)
      · exact Or.inr e
    · intro x hx
      have keep : ∀ {v : Value} {l : List Rec}, w.ownsRow 0 36 3 v l.length (recCells l) → (w1.setCell ⟨b, 77, none⟩ v').ownsRow 0 36 3 v l.length (recCells l) := by
        intro v l ho
        refine ownsRow_same ho fun g hg hl => ?_
        have h1 : g ≠ b := hblkne ho hg (by decide)
        obtain ⟨cu, hcu⟩ := ownsRow_block ho hg
        rw [hset g h1, hold g hl]
        intro e
        obtain ⟨cu', hcu'⟩ := ownsRow_block h.way e
        exact ne_of_type hcu hcu' (by decide) rfl
      rcases List.mem_append.1 hx with hx | hx
      · exact keep (h.recs x hx)
      · simp at hx; subst hx; exact keep hrv
    · intro x g hx hg
      rcases List.mem_append.1 hx with hx | hx
      · exact Or.inl (h.recS x g hx hg)
      · simp at hx; subst hx; exact Or.inl (hrS g hg)
    · intro x k g hx hk hg
      rcases List.mem_append.1 hx with hx | hx
      · exact h.recD x k g hx hk hg
      · simp at hx; subst hx; exact hrD k g hk hg
  · have f1 : Fr S w w1 := (hW.mono (fun _ e => e.elim)).then (Fr.grown hgrow fun k hk => h.wayS k hk)
    exact f1.then (Fr.setCell _ _ h.inb _)

set_option maxHeartbeats 3200000 in
set_option maxRecDepth 100000 in
theorem send_any (h : Rep w S b c lv ev uv mv) (hok : Ok c) (m : Msg) (rv : Value) (hrv : w.ownsRow 0 36 3 rv m.recs.length (recCells m.recs)) (hrS : ∀ g, rv.ownBlock = some g → S g)
    (hrD : ∀ k g, k < 5 → rv.ownBlock = some g → (lv k).ownBlock ≠ some g) :
    Calls Try.prog 50 #[.pointer (some ⟨b, 0, none⟩), .agg #[.int .i64 m.kind, .int .i64 m.frm, .int .i64 m.to, .int .i64 m.epoch, .int .i64 m.n, rv]] w fun e w' =>
      e = .returned (.tuple #[]) ∧ (∃ uv' mv', Rep w' (Ext S w) b (send c m) lv ev uv' mv') ∧ Fr S w w' := by
  have hw := h.cWay
  have hl := h.ways_len
  obtain ⟨ao, cap, hu, hcap, hblk, _⟩ := ownsRow_shape h.way
  have hb := h.lt
  have hfr := h.free 77
  have H : Hid (Rep w S b c lv ev uv mv) := h
  have HV : Hid (w.ownsRow 0 36 3 rv m.recs.length (recCells m.recs)) := hrv
  have hW : Hid (w.ownsRow 0 101 6 uv c.ways.length (msgCells mv)) := by rw [← hl]; exact h.way
  rw [hl] at hu
  have HL : Hid (mv.length = c.ways.length) := hl
  clear hl hcap
  have hne : uv.ownBlock ≠ some b := by
    intro e
    obtain ⟨cs, hbl, _⟩ := h.blk
    obtain ⟨cu, hcu⟩ := ownsRow_block h.way e
    exact ne_of_type hcu hbl (by decide) rfl
  have hone : rv.oneCell' = true := by
    obtain ⟨_, _, e, _⟩ := ownsRow_shape hrv
    rw [e]; rfl
  have hnb : some w.heap.size ≠ uv.ownBlock := by
    intro e
    have := (h.way.lt _ e.symm).2
    omega
  clear h hrv
  have hways := hok.ways
  by_cases hfull : 50 ≤ c.ways.length
  · have HF : Hid (send c m = c) := by show send c m = c; simp [send, hfull]
    subst hu
    have hge : (50 : Int) ≤ (c.ways.length : Int) := by omega
    go_enter Try.func50, Try.ntmps50
    go_wp2
    exact bodyPost_ret (results_none rfl _ _ _) rfl ⟨rfl, ⟨_, _, by rw [HF.out]; exact (H.out.alloc _).mono fun k _ hk => Or.inl hk⟩, Fr.alloc _ _ _⟩
  · have HF : Hid (send c m = { c with ways := c.ways ++ [m] }) := by show send c m = _; simp [send, hfull]
    have hlt : (c.ways.length : Int) < 50 := by omega
    have hlt' : c.ways.length < 50 := by omega
    obtain ⟨i0, hi0, hz0, hz1, hz2⟩ := info_parts infoMsg
    subst hu
    go_enter Try.func50, Try.ntmps50
    go_wp2_with fail
    have hnews := msgRow_one m rv hone
    go_region_law ((refine step_append_lies _ (by rfl) _ _ _ (by rfl) 0 101 i0 _ 6 64 Try.underlying92 hi0 hz0 hz1 hz2 rfl (by omega) (.slice ao c.ways.length cap) c.ways.length (msgCells mv) (by rfl) (((hW.out.alloc _).alloc _).drew) ⟨w.heap.size + 1, 0, none⟩ 1 1 (msgRow (m, rv)) (by rfl) (by rfl) (World.news_of_block (cs := (msgRow (m, rv)).toArray) (t := 101) (fr := (0, 0)) (heap_alloc2_new w _ _)) hnews (by omega) (by unfold maxLen; omega) (by omega) (by omega) (w.heap.size + 2) (by simp) ?_; intro gg cap' w1 hown1 hgrow hat hlt2; have hc51 : w1.cell? ⟨b, 77, none⟩ = some (.slice ao c.ways.length cap) := (by rw [hgrow.cell_far _ (by simp; omega) (Ne.symm hne)]; simp [World.cell?_alloc_some, hw]); have hf51 : w1.frozen? ⟨b, 77, none⟩ = false := (by rw [hgrow.frozen_far _ (by simp; omega) (Ne.symm hne)]; simp [frozen?_alloc_cells, hfr])))
    all_goals go_wp2
    all_goals
      refine bodyPost_end (results_none rfl _ _ _) rfl ?_
      have R := H.out.sent (W := ((w.alloc _).alloc _).drew) (((Fr.alloc _ _ _).then (Fr.alloc _ _ _)).then (Fr.drew _ _)) m rv (.slice (some ⟨gg, 0, none⟩) (c.ways.length + 1) cap') (c.ways.length + 1) gg (by rw [HL.out]) rfl HV.out hrS hrD hown1 hgrow (orR hat fun e => by omega)
      exact ⟨rfl, ⟨_, _, by rw [HF.out]; exact R.1⟩, R.2⟩
end
end Go.Proofs.Ythpjcmilfipbaaa

namespace Go.Proofs.Ythpjcmilfipbaaa
set_option linter.unusedVariables false
set_option linter.unusedSimpArgs false
open Go.RowKit

theorem send_nodes (c : Clu) (m : Msg) : (send c m).nodes = c.nodes ∧ (send c m).epochs = c.epochs := by unfold send; split <;> exact ⟨rfl, rfl⟩
theorem send_act (c : Clu) (m : Msg) : (send c m).active = c.active := by unfold send; split <;> rfl
theorem send_ok {c : Clu} (h : Ok c) (m : Msg) : Ok (send c m) := by
  refine ⟨?_, ?_, ?_, ?_⟩
  · rw [(send_nodes c m).1]; exact h.log
  · unfold send
    split
    · exact h.ways
    · simp; omega
  · rw [(send_nodes c m).2]; exact h.eps
  · rw [(send_nodes c m).2]; exact h.mem
theorem sendAppend_nodes (c : Clu) (k j : Nat) (a : Int) : (sendAppend c k j a).nodes = c.nodes ∧ (sendAppend c k j a).epochs = c.epochs := by
  unfold sendAppend; split
  · exact ⟨rfl, rfl⟩
  · exact send_nodes _ _
theorem sendAppend_ok {c : Clu} (h : Ok c) (k j : Nat) (a : Int) : Ok (sendAppend c k j a) := by
  unfold sendAppend; split
  · exact h
  · exact send_ok h _
theorem lackTo_nodes (c : Clu) (k : Nat) : ∀ j, (lackTo c k j).nodes = c.nodes ∧ (lackTo c k j).epochs = c.epochs
  | 0 => ⟨rfl, rfl⟩
  | j + 1 => by
    have ih := lackTo_nodes c k j
    unfold lackTo
    split
    · rw [sendFirst, (sendAppend_nodes _ _ _ _).1, (sendAppend_nodes _ _ _ _).2]; exact ih
    · exact ih
theorem lackTo_ok {c : Clu} (h : Ok c) (k : Nat) : ∀ j, Ok (lackTo c k j)
  | 0 => h
  | j + 1 => by
    have ih := lackTo_ok h k j
    unfold lackTo
    split
    · exact sendAppend_ok ih _ _ _
    · exact ih

theorem ownsRow_rec (w : World) (x : Rec) : (w.alloc (.cells #[.int .i64 x.p, .int .i64 x.s, .int .i64 x.v] 36)).ownsRow 0 36 3 (.slice (some ⟨w.heap.size, 0, none⟩) 1 1) [x].length (recCells [x]) :=
  ⟨rfl, .inr ⟨w.heap.size, 1, _, rfl, Nat.zero_le _, heap_alloc_new w _, Nat.le_refl _, by unfold maxLen; omega, rfl, rfl⟩⟩

section
variable {w : World} {S : Nat → Prop} {b : Nat} {c : Clu} {lv : Nat → Value} {ev uv : Value} {mv : List (Msg × Value)}

set_option maxHeartbeats 1600000 in
set_option maxRecDepth 100000 in
theorem sendAppend_any (h : Rep w S b c lv ev uv mv) (hok : Ok c) (k j : Nat) (hk : k < 5) (at_ : Int) :
    Calls Try.prog 69 #[.pointer (some ⟨b, 0, none⟩), .int .i64 k, .int .i64 j, .int .i64 at_] w fun e w' =>
      e = .returned (.tuple #[]) ∧ (∃ uv' mv', Rep w' (Ext S w) b (sendAppend c k j at_) lv ev uv' mv') ∧ Fr S w w' := by
  have hl := h.cLog k hk
  have hf := h.cFol k hk
  have hlen := hok.log k hk
  have hb := h.lt
  have hown := h.logs k hk
  obtain ⟨ao, cap, hlv, hcap, _, hpos⟩ := ownsRow_shape hown
  rw [hlv] at hl hown
  have H : Hid (Rep w S b c lv ev uv mv) := h
  have HO : Hid (Ok c) := hok
  have HL : Hid (lv k = .slice ao (c.nodes k).log.length cap) := hlv
  clear h hok hlv
  by_cases h1 : at_ < 0
  · have HF : Hid (sendAppend c k j at_ = c) := by show sendAppend c k j at_ = c; simp [sendAppend, h1]
    clear hown
    go_enter Try.func69, Try.ntmps69
    go_wp2
    exact bodyPost_ret (results_none rfl _ _ _) rfl ⟨rfl, ⟨_, _, by rw [HF.out]; exact H.out.mono fun k _ hk => Or.inl hk⟩, Fr.refl _ _⟩
  by_cases h2 : ((c.nodes k).log.length : Int) ≤ at_
  · have HF : Hid (sendAppend c k j at_ = c) := by show sendAppend c k j at_ = c; simp [sendAppend, h2]
    clear hown
    go_enter Try.func69, Try.ntmps69
    go_wp2
    exact bodyPost_ret (results_none rfl _ _ _) rfl ⟨rfl, ⟨_, _, by rw [HF.out]; exact H.out.mono fun k _ hk => Or.inl hk⟩, Fr.refl _ _⟩
  obtain ⟨a, rfl⟩ := Int.eq_ofNat_of_zero_le (Int.not_lt.1 h1)
  have ha : a < (c.nodes k).log.length := by omega
  obtain ⟨g, rfl⟩ := hpos (by omega)
  have hr : (c.nodes k).log[a]? = some (c.nodes k).log[a] := by simp [ha]
  obtain ⟨c1, c2, c3⟩ := rec_cells hown a _ hr
  have HT : Hid (((c.nodes k).log.drop a).take 1 = [(c.nodes k).log[a]]) := by
    show ((c.nodes k).log.drop a).take 1 = [(c.nodes k).log[a]]
    rw [List.drop_eq_getElem_cons ha]; rfl
  generalize (c.nodes k).log[a] = x at c1 c2 c3 hr HT
  have HF : Hid (sendAppend c k j a = send c { kind := 8, frm := k, to := j, epoch := (c.nodes k).follows, n := a, recs := [x] }) := by
    show sendAppend c k j a = _
    have : ¬ ((a : Int) < 0 ∨ ((c.nodes k).log.length : Int) ≤ a) := by omega
    rw [sendAppend, if_neg this]
    simp only [Int.toNat_natCast, HT.out]
  clear hown hr
  go_enter Try.func69, Try.ntmps69
  go_wp2_with fail
  refine (send_any ((H.out.alloc _).mono (S' := Ext S w) fun _ _ e => Or.inl e) HO.out { kind := 8, frm := k, to := j, epoch := (c.nodes k).follows, n := a, recs := [x] } _ (ownsRow_rec w x) (fun g' hg' => ?_) (fun i g' hi hg' => ?_)).mono ?_
  · simp [Value.ownBlock] at hg'; subst hg'; exact Or.inr (Nat.le_refl _)
  · simp [Value.ownBlock] at hg'; subst hg'
    intro e
    have := ownsRow_lt (H.out.logs i hi) e
    omega
  rintro e w' ⟨rfl, ⟨uv', mv', hR⟩, hFr⟩
  go_wp2
  exact bodyPost_end (results_none rfl _ _ _) rfl ⟨rfl, ⟨uv', mv', by rw [HF.out]; exact hR.mono fun i _ e => Ext.sub (by simp) i e⟩, (Fr.alloc S w _).trans hFr⟩

set_option maxHeartbeats 800000 in
theorem sendFirst_any (h : Rep w S b c lv ev uv mv) (hok : Ok c) (k j : Nat) (hk : k < 5) (hj : j < 5) :
    Calls Try.prog 68 #[.pointer (some ⟨b, 0, none⟩), .int .i64 k, .int .i64 j] w fun e w' =>
      e = .returned (.tuple #[]) ∧ (∃ uv' mv', Rep w' (Ext S w) b (sendFirst c k j) lv ev uv' mv') ∧ Fr S w w' := by
  have hkn := h.cKno k j hk hj
  have H : Hid (Rep w S b c lv ev uv mv) := h
  have HO : Hid (Ok c) := hok
  clear h hok
  go_enter Try.func68, Try.ntmps68
  go_wp2_with fail
  refine (sendAppend_any H.out HO.out k j hk _).mono ?_
  rintro e w' ⟨rfl, hR, hFr⟩
  go_wp2
  exact bodyPost_end (results_none rfl _ _ _) rfl ⟨rfl, hR, hFr⟩

set_option maxHeartbeats 1600000 in
set_option maxRecDepth 100000 in
theorem lack_any (h : Rep w S b c lv ev uv mv) (hok : Ok c) (k : Nat) (hk : k < 5) :
    Calls Try.prog 45 #[.pointer (some ⟨b, 0, none⟩), .int .i64 k] w fun e w' =>
      e = .returned (.tuple #[]) ∧ (∃ uv' mv', Rep w' (Ext S w) b (lack c k) lv ev uv' mv') ∧ Fr S w w' := by
  have H : Hid (Rep w S b c lv ev uv mv) := h
  have HO : Hid (Ok c) := hok
  clear h hok
  go_enter Try.func45, Try.ntmps45
  go_wp2
  go_loopw [5] (fun i wr => ∃ j : Nat, j ≤ 5 ∧ i = .int .i64 j ∧ (∃ uv' mv', Rep wr (Ext S w) b (lackTo c k j) lv ev uv' mv') ∧ Fr S w wr) (fun i _ => 5 - (intOf i).toNat)
  case atStart => exact ⟨0, Nat.zero_le _, rfl, ⟨_, _, H.out.mono fun _ _ e => Or.inl e⟩, Fr.refl _ _⟩
  case round =>
    obtain ⟨j, hj5, rfl, ⟨uv1, mv1, hR⟩, hFr⟩ := hrel
    have HR : Hid (Rep wr (Ext S w) b (lackTo c k j) lv ev uv1 mv1) := hR
    have HFr : Hid (Fr S w wr) := hFr
    have HO1 : Hid (Ok (lackTo c k j)) := lackTo_ok HO.out k j
    clear hR hFr
    by_cases hj : j < 5
    · cases hoth : isOther (lackTo c k j) k j
      · have HS : Hid (lackTo c k (j + 1) = lackTo c k j) := by show lackTo c k (j + 1) = _; rw [lackTo, hoth]; rfl
        go_wp2_with (first | (go_at_call 67; refine (isOther_any HR.out HO1.out k j hk hj).mono ?_; rintro e w' ⟨rfl, hB'⟩; have HR' : Hid (Rep w' (Ext S w) b (lackTo c k j) lv ev uv1 mv1) := HR.out.below hB'; have HFr' : Hid (Fr S w w') := HFr.out.then (Fr.below hB'); clear hB'))
        go_roundw
        case rel => exact ⟨j + 1, by omega, by go_num, ⟨uv1, mv1, by rw [HS.out]; exact HR'.out⟩, HFr'.out⟩
        case measure => simp [intOf]; omega
      · have HS : Hid (lackTo c k (j + 1) = sendFirst (lackTo c k j) k j) := by show lackTo c k (j + 1) = _; rw [lackTo, hoth]; rfl
        go_wp2_with (first | (go_at_call 67; refine (isOther_any HR.out HO1.out k j hk hj).mono ?_; rintro e w' ⟨rfl, hB'⟩; have HR' : Hid (Rep w' (Ext S w) b (lackTo c k j) lv ev uv1 mv1) := HR.out.below hB'; have HFr' : Hid (Fr S w w') := HFr.out.then (Fr.below hB'); clear hB'))
        refine (sendFirst_any HR'.out HO1.out k j hk hj).mono ?_
        rintro e w2 ⟨rfl, ⟨uv2, mv2, hR2⟩, hFr2⟩
        have HR2 : Hid (Rep w2 (Ext (Ext S w) w') b (sendFirst (lackTo c k j) k j) lv ev uv2 mv2) := hR2
        have HFr2 : Hid (Fr (Ext S w) w' w2) := hFr2
        clear hR2 hFr2
        go_wp2
        go_roundw
        case rel => exact ⟨j + 1, by omega, by go_num, ⟨uv2, mv2, by rw [HS.out]; exact HR2.out.mono fun i _ e => Ext.sub HFr'.out.size i e⟩, HFr'.out.trans HFr2.out⟩
        case measure => simp [intOf]; omega
    · have : j = 5 := by omega
      subst this
      go_wp2
      exact bodyPost_end (results_none rfl _ _ _) rfl ⟨rfl, ⟨_, _, HR.out⟩, HFr.out⟩
end
end Go.Proofs.Ythpjcmilfipbaaa

namespace Go.Proofs.Ythpjcmilfipbaaa
set_option linter.unusedVariables false
set_option linter.unusedSimpArgs false
open Go.RowKit

theorem putLog_at (c : Clu) (k : Nat) (l : List Rec) (i : Nat) : ((putLog c k l).nodes i).up = (c.nodes i).up ∧ ((putLog c k l).nodes i).follows = (c.nodes i).follows ∧ ((putLog c k l).nodes i).given = (c.nodes i).given ∧
    ((putLog c k l).nodes i).role = (c.nodes i).role ∧ ((putLog c k l).nodes i).known = (c.nodes i).known ∧ ((putLog c k l).nodes i).log = if i = k then l else (c.nodes i).log := by
  unfold putLog upd
  by_cases h : i = k
  · subst h; simp
  · simp [h]
theorem putLog_has (c : Clu) (k : Nat) (l : List Rec) (i : Nat) : ((putLog c k l).nodes i).has = (c.nodes i).has := by
  unfold putLog upd
  by_cases h : i = k
  · subst h; simp
  · simp [h]
theorem Cells.setLog {cs : Array Value} {c : Clu} {lv : Nat → Value} {ev uv : Value} (h : Cells cs c.nodes c.active lv ev uv) (k : Nat) (hk : k < 5) (v' : Value) (l : List Rec) :
    Cells (cs.setIfInBounds (k * 15 + 4) v') (putLog c k l).nodes (putLog c k l).active (upd lv k v') ev uv := by
  have e := putLog_at c k l
  have e' := putLog_has c k l
  refine h.put _ _ (by omega) (fun i hi => ?_) (fun i hi => ?_) (fun i hi => ?_) (fun i hi => ?_) (fun i hi => ?_) (fun i j hi hj => ?_) (fun i j hi hj => ?_) (if_neg (by omega)) (if_neg (by omega)) (if_neg (by omega))
  · rw [if_neg (by omega), (e i).1]
  · rw [if_neg (by omega), (e i).2.1]
  · rw [if_neg (by omega), (e i).2.2.1]
  · rw [if_neg (by omega), (e i).2.2.2.1]
  · by_cases hik : i = k
    · subst hik; rw [upd_same, if_pos rfl]
    · rw [upd_other _ _ _ _ hik, if_neg (by omega)]
  · rw [if_neg (by omega), e' i]
  · rw [if_neg (by omega), (e i).2.2.2.2.1]
def recRow (r : Rec) : List Value := [.int .i64 r.p, .int .i64 r.s, .int .i64 r.v]
theorem recRow_one (r : Rec) : ∀ u ∈ recRow r, u.oneCell' = true := by
  intro u hu
  simp only [recRow, List.mem_cons, List.not_mem_nil, or_false] at hu
  rcases hu with rfl | rfl | rfl <;> rfl

section
variable {w : World} {S : Nat → Prop} {b : Nat} {c : Clu} {lv : Nat → Value} {ev uv : Value} {mv : List (Msg × Value)}
/-- What an append to a log, and the store of the new log, come to. -/
theorem Rep.logged {W w1 : World} (h : Rep w S b c lv ev uv mv) (hW : Fr No w W) (k : Nat) (hk : k < 5) (l : List Rec) (v' : Value) (n gg : Nat) (hn : n = l.length) (hv' : v'.ownBlock = some gg)
    (hown : w1.ownsRow 0 36 3 v' n (recCells l)) (hgrow : W.grownBy w1 (lv k).ownBlock) (hat : (lv k).ownBlock = some gg ∨ w.heap.size ≤ gg) :
    Rep (w1.setCell ⟨b, k * 15 + 4, none⟩ v') (Ext S w) b (putLog c k l) (upd lv k v') ev uv mv ∧ Fr S w (w1.setCell ⟨b, k * 15 + 4, none⟩ v') := by
  obtain ⟨cs, hbl, hc⟩ := h.blk
  have hb := h.lt
  have e := putLog_at c k l
  have hblkne : ∀ {g : Nat} {v : Value} {m : Nat} {xs : List Value} {e sz : Nat}, w.ownsRow 0 e sz v m xs → v.ownBlock = some g → e ≠ 94 → g ≠ b := by
    intro g v m xs e sz ho hg he
    obtain ⟨cu, hcu⟩ := ownsRow_block ho hg
    exact ne_of_type hcu hbl he
  have hgb : gg ≠ b := by
    rcases hat with e | e
    · exact hblkne (h.logs k hk) e (by decide)
    · omega
  have hold : ∀ i, i < w.heap.size → (lv k).ownBlock ≠ some i → w1.heap[i]? = w.heap[i]? := fun i hi hu =>
    (hgrow.block i (Nat.lt_of_lt_of_le hi hW.size) (fun e => hu e.symm)).trans (hW.block i hi (fun e => e))
  have hset : ∀ i, i ≠ b → (w1.setCell ⟨b, k * 15 + 4, none⟩ v').heap[i]? = w1.heap[i]? := fun i hi => Below.heap_setCell _ _ _ _ hi
  have hub : (lv k).ownBlock ≠ some b := fun e => hblkne (h.logs k hk) e (by decide) rfl
  have keep : ∀ {v : Value} {m : Nat} {xs : List Value} {e sz : Nat}, w.ownsRow 0 e sz v m xs → e ≠ 94 → (∀ g, v.ownBlock = some g → (lv k).ownBlock ≠ some g) → (w1.setCell ⟨b, k * 15 + 4, none⟩ v').ownsRow 0 e sz v m xs := by
    intro v m xs e sz ho he hd
    exact ownsRow_same ho fun g hg hl => by rw [hset g (hblkne ho hg he), hold g hl (hd g hg)]
  have other : ∀ {v : Value} {m : Nat} {xs : List Value} {e sz : Nat}, w.ownsRow 0 e sz v m xs → e ≠ 36 → ∀ g, v.ownBlock = some g → (lv k).ownBlock ≠ some g := by
    intro v m xs e sz ho he g hg hu
    obtain ⟨cu, hcu⟩ := ownsRow_block ho hg
    obtain ⟨cu', hcu'⟩ := ownsRow_block (h.logs k hk) hu
    exact ne_of_type hcu hcu' he rfl
  have newS : Ext S w gg := by
    rcases hat with e | e
    · exact Or.inl (h.logS k gg hk e)
    · exact Or.inr e
  refine ⟨?_, ?_⟩
  · exact { blk := ⟨_, heap_setCell_at _ _ _ _ _ _ _ ((hold b hb hub).trans hbl), hc.setLog k hk v' l⟩, inb := Or.inl h.inb
            logs := fun i hi => by
              by_cases hik : i = k
              · subst hik
                rw [upd_same, (e i).2.2.2.2.2, if_pos rfl, ← hn]
                exact ownsRow_same hown fun g hg _ => hset g (by rw [hv'] at hg; simp at hg; omega)
              · rw [upd_other _ _ _ _ hik, (e i).2.2.2.2.2, if_neg hik]
                exact keep (h.logs i hi) (by decide) fun g hg => h.logD i k g hi hk hik hg
            logS := fun i g hi hg => by
              by_cases hik : i = k
              · subst hik; rw [upd_same, hv'] at hg; simp at hg; subst hg; exact newS
              · rw [upd_other _ _ _ _ hik] at hg; exact Or.inl (h.logS i g hi hg)
            logD := fun i j g hi hj hij hg => by
              by_cases hik : i = k
              · subst hik
                rw [upd_same, hv'] at hg; simp at hg; subst hg
                rw [upd_other _ _ _ _ (fun e => hij e.symm)]
                rcases hat with e | e
                · exact h.logD i j gg hi hj hij e
                · intro e2; have := ownsRow_lt (h.logs j hj) e2; omega
              · rw [upd_other _ _ _ _ hik] at hg
                by_cases hjk : j = k
                · subst hjk
                  rw [upd_same, hv']
                  intro e2; simp at e2; subst e2
                  rcases hat with e | e
                  · exact h.logD i j gg hi hj hij hg e
                  · have := ownsRow_lt (h.logs i hi) hg; omega
                · rw [upd_other _ _ _ _ hjk]; exact h.logD i j g hi hj hij hg
            eps := keep h.eps (by decide) (other h.eps (by decide)), epS := fun g hg => Or.inl (h.epS g hg)
            way := keep h.way (by decide) (other h.way (by decide)), wayS := fun g hg => Or.inl (h.wayS g hg), mvs := h.mvs
            recs := fun x hx => keep (h.recs x hx) (by decide) fun g hg => h.recD x k g hx hk hg
            recS := fun x g hx hg => Or.inl (h.recS x g hx hg)
            recD := fun x i g hx hi hg => by
              by_cases hik : i = k
              · subst hik
                rw [upd_same, hv']
                intro e2; simp at e2; subst e2
                rcases hat with e | e
                · exact h.recD x i gg hx hi hg e
                · have := ownsRow_lt (h.recs x hx) hg; omega
              · rw [upd_other _ _ _ _ hik]; exact h.recD x i g hx hi hg }
  · have f1 : Fr S w w1 := (hW.mono (fun _ e => e.elim)).then (Fr.grown hgrow fun i hi => h.logS k i hk hi)
    exact f1.then (Fr.setCell _ _ h.inb _)

theorem writeTo_nodes (c : Clu) (k : Nat) (a : Int) : ∀ j, (writeTo c k a j).nodes = c.nodes ∧ (writeTo c k a j).epochs = c.epochs
  | 0 => ⟨rfl, rfl⟩
  | j + 1 => by
    have ih := writeTo_nodes c k a j
    unfold writeTo
    split
    · rw [(sendAppend_nodes _ _ _ _).1, (sendAppend_nodes _ _ _ _).2]; exact ih
    · exact ih
theorem writeTo_ok {c : Clu} (h : Ok c) (k : Nat) (a : Int) : ∀ j, Ok (writeTo c k a j)
  | 0 => h
  | j + 1 => by
    have ih := writeTo_ok h k a j
    unfold writeTo
    split
    · exact sendAppend_ok ih _ _ _
    · exact ih
theorem putLog_ok {c : Clu} (h : Ok c) (k : Nat) (l : List Rec) (hl : l.length ≤ 60) : Ok (putLog c k l) :=
  ⟨fun i hi => by rw [(putLog_at c k l i).2.2.2.2.2]; split; exact hl; exact h.log i hi, h.ways, h.eps, h.mem⟩

set_option maxHeartbeats 3200000 in
set_option maxRecDepth 100000 in
theorem write_any (h : Rep w S b c lv ev uv mv) (hok : Ok c) (k : Nat) (hk : k < 5) (r : Rec) (hl60 : (c.nodes k).log.length < 60) :
    Calls Try.prog 46 #[.pointer (some ⟨b, 0, none⟩), .int .i64 k, .agg #[.int .i64 r.p, .int .i64 r.s, .int .i64 r.v]] w fun e w' =>
      e = .returned (.tuple #[]) ∧ (∃ lv' uv' mv', Rep w' (Ext S w) b (write c k r) lv' ev uv' mv') ∧ Fr S w w' := by
  have hl := h.cLog k hk
  have hb := h.lt
  have hfr := h.free (k * 15 + 4)
  have hown := h.logs k hk
  obtain ⟨ao, cap, hlv, hcap, _, hpos⟩ := ownsRow_shape hown
  rw [hlv] at hl hown
  have hW : Hid (w.ownsRow 0 36 3 (.slice ao (c.nodes k).log.length cap) (c.nodes k).log.length (recCells (c.nodes k).log)) := hown
  have hne : (Value.slice ao (c.nodes k).log.length cap).ownBlock ≠ some b := by
    intro e
    obtain ⟨cs, hbl, _⟩ := h.blk
    obtain ⟨cu, hcu⟩ := ownsRow_block hown e
    exact ne_of_type hcu hbl (by decide) rfl
  have H : Hid (Rep w S b c lv ev uv mv) := h
  have HO : Hid (Ok c) := hok
  have HL : Hid (lv k = .slice ao (c.nodes k).log.length cap) := hlv
  clear h hok hlv hown hpos
  obtain ⟨i0, hi0, hz0, hz1, hz2⟩ := info_parts infoRec
  have hk0 : (0 : Int) ≤ (k : Int) := by omega
  have hk1 : (k : Int) < 5 := by omega
  have hnews := recRow_one r
  go_enter Try.func46, Try.ntmps46
  go_wp2_with fail
  go_region_law ((refine step_append_lies _ (by rfl) _ _ _ (by rfl) 0 36 i0 _ 3 24 Try.underlying53 hi0 hz0 hz1 hz2 rfl (by omega) (.slice ao (c.nodes k).log.length cap) (c.nodes k).log.length (recCells (c.nodes k).log) (by rfl) (((hW.out.alloc _).alloc _).drew) ⟨w.heap.size + 1, 0, none⟩ 1 1 (recRow r) (by rfl) (by rfl) (World.news_of_block (cs := (recRow r).toArray) (t := 36) (fr := (0, 0)) (heap_alloc2_new w _ _)) hnews (by omega) (by unfold maxLen; omega) (by omega) (by omega) (w.heap.size + 2) (by simp) ?_; intro gg cap' w1 hown1 hgrow hat hlt2; have hc51 : w1.cell? ⟨b, k * 15 + 4, none⟩ = some (.slice ao (c.nodes k).log.length cap) := (by rw [hgrow.cell_far _ (by simp; omega) (Ne.symm hne)]; simp [World.cell?_alloc_some, hl]); have hf51 : w1.frozen? ⟨b, k * 15 + 4, none⟩ = false := (by rw [hgrow.frozen_far _ (by simp; omega) (Ne.symm hne)]; simp [frozen?_alloc_cells, hfr])))
  all_goals
    have R := H.out.logged (W := ((w.alloc _).alloc _).drew) (((Fr.alloc _ _ _).then (Fr.alloc _ _ _)).then (Fr.drew _ _)) k hk ((c.nodes k).log ++ [r]) (.slice (some ⟨gg, 0, none⟩) ((c.nodes k).log.length + 1) cap') ((c.nodes k).log.length + 1) gg (by simp) rfl
      (by rw [recCells_append]; exact hown1) (by rw [HL.out]; exact hgrow) (by rw [HL.out]; exact orR hat fun e => by omega)
    have HO1 : Hid (Ok (putLog c k ((c.nodes k).log ++ [r]))) := putLog_ok HO.out k _ (by simp; omega)
    clear hown1 hgrow hat hlt2 hc51 hf51 hnews hW hl hfr hne
    generalize w1.setCell _ _ = W2 at R ⊢
    generalize hc1 : putLog c k ((c.nodes k).log ++ [r]) = c1 at R HO1
    generalize upd lv k _ = lv1 at R
    have HC : Hid (putLog c k ((c.nodes k).log ++ [r]) = c1) := hc1
    clear hc1
    have HR1 : Hid (Rep W2 (Ext S w) b c1 lv1 ev uv mv) := R.1
    have HR2 : Hid (Fr S w W2) := R.2
    clear R
    have HFin : Hid (write c k r = writeTo c1 k ((c.nodes k).log.length) 5) := by show write c k r = _; rw [write, HC.out]
    generalize (c.nodes k).log.length = n at *
    go_wp2
    go_loopw [32] (fun i wr => ∃ j : Nat, j ≤ 5 ∧ i = .int .i64 j ∧ (∃ uv' mv', Rep wr (Ext S w) b (writeTo c1 k n j) lv1 ev uv' mv') ∧ Fr S w wr) (fun i _ => 5 - (intOf i).toNat)
    case atStart => exact ⟨0, Nat.zero_le _, rfl, ⟨_, _, HR1.out⟩, HR2.out⟩
    case round =>
      obtain ⟨j, hj5, rfl, ⟨uv1, mv1, hR⟩, hFr⟩ := hrel
      have HR : Hid (Rep wr (Ext S w) b (writeTo c1 k n j) lv1 ev uv1 mv1) := hR
      have HFr : Hid (Fr S w wr) := hFr
      have HO2 : Hid (Ok (writeTo c1 k n j)) := writeTo_ok HO1.out k n j
      clear hR hFr
      by_cases hj : j < 5
      · cases hoth : isOther (writeTo c1 k n j) k j
        · have HS : Hid (writeTo c1 k n (j + 1) = writeTo c1 k n j) := by show writeTo c1 k n (j + 1) = _; rw [writeTo, hoth]; rfl
          go_wp2_with (first | (go_at_call 67; refine (isOther_any HR.out HO2.out k j hk hj).mono ?_; rintro e w' ⟨rfl, hB'⟩; have HR' : Hid (Rep w' (Ext S w) b (writeTo c1 k n j) lv1 ev uv1 mv1) := HR.out.below hB'; have HFr' : Hid (Fr S w w') := HFr.out.then (Fr.below hB'); clear hB'))
          go_roundw
          case rel => exact ⟨j + 1, by omega, by go_num, ⟨uv1, mv1, by rw [HS.out]; exact HR'.out⟩, HFr'.out⟩
          case measure => simp [intOf]; omega
        · have HS : Hid (writeTo c1 k n (j + 1) = sendAppend (writeTo c1 k n j) k j n) := by show writeTo c1 k n (j + 1) = _; rw [writeTo, hoth]; rfl
          go_wp2_with (first | (go_at_call 67; refine (isOther_any HR.out HO2.out k j hk hj).mono ?_; rintro e w' ⟨rfl, hB'⟩; have HR' : Hid (Rep w' (Ext S w) b (writeTo c1 k n j) lv1 ev uv1 mv1) := HR.out.below hB'; have HFr' : Hid (Fr S w w') := HFr.out.then (Fr.below hB'); clear hB'))
          refine (sendAppend_any HR'.out HO2.out k j hk _).mono ?_
          rintro e w2 ⟨rfl, ⟨uv2, mv2, hR2⟩, hFr2⟩
          have HR2 : Hid (Rep w2 (Ext (Ext S w) w') b (sendAppend (writeTo c1 k n j) k j n) lv1 ev uv2 mv2) := hR2
          have HFr2 : Hid (Fr (Ext S w) w' w2) := hFr2
          clear hR2 hFr2
          go_wp2
          go_roundw
          case rel => exact ⟨j + 1, by omega, by go_num, ⟨uv2, mv2, by rw [HS.out]; exact HR2.out.mono fun i _ e => Ext.sub HFr'.out.size i e⟩, HFr'.out.trans HFr2.out⟩
          case measure => simp [intOf]; omega
      · have : j = 5 := by omega
        subst this
        go_wp2
        exact bodyPost_end (results_none rfl _ _ _) rfl ⟨rfl, ⟨_, _, _, by rw [HFin.out]; exact HR.out⟩, HFr.out⟩
end
end Go.Proofs.Ythpjcmilfipbaaa

namespace Go.Proofs.Ythpjcmilfipbaaa
set_option linter.unusedVariables false
set_option linter.unusedSimpArgs false
open Go.RowKit
/-- Several cells turn, one behind the other. -/
def setMany (cs : Array Value) : Nat → List Value → Array Value
  | _, [] => cs
  | o, v :: l => setMany (cs.setIfInBounds o v) (o + 1) l
theorem setMany_size : ∀ (l : List Value) (cs : Array Value) (o : Nat), (setMany cs o l).size = cs.size
  | [], cs, o => rfl
  | v :: l, cs, o => by rw [setMany, setMany_size l]; simp
theorem setMany_out : ∀ (l : List Value) (cs : Array Value) (o i : Nat), i < o ∨ o + l.length ≤ i → (setMany cs o l)[i]? = cs[i]?
  | [], cs, o, i, _ => rfl
  | v :: l, cs, o, i, h => by
    simp only [List.length_cons] at h
    rw [setMany, setMany_out l _ _ _ (by omega), Array.getElem?_setIfInBounds_ne (by omega)]
theorem setMany_in : ∀ (l : List Value) (cs : Array Value) (o i : Nat), i < l.length → o + i < cs.size → (setMany cs o l)[o + i]? = l[i]?
  | [], cs, o, i, h, _ => by simp at h
  | v :: l, cs, o, 0, h, hs => by
    rw [setMany, setMany_out l _ _ _ (by omega), Nat.add_zero, Array.getElem?_setIfInBounds_self, if_pos (by omega)]; rfl
  | v :: l, cs, o, i + 1, h, hs => by
    simp only [List.length_cons] at h
    have := setMany_in l (cs.setIfInBounds o v) (o + 1) i (by omega) (by simp; omega)
    rw [setMany, show o + (i + 1) = o + 1 + i by omega, this]; rfl
def ndRow (nd : Nd) (v : Value) : List Value :=
  [.bool nd.up, .int .i64 nd.follows, .int .i64 nd.given, .int .i64 nd.role, v, .bool (nd.has 0), .bool (nd.has 1), .bool (nd.has 2), .bool (nd.has 3), .bool (nd.has 4),
    .int .i64 (nd.known 0), .int .i64 (nd.known 1), .int .i64 (nd.known 2), .int .i64 (nd.known 3), .int .i64 (nd.known 4)]
theorem Cells.node {cs : Array Value} {n : Nat → Nd} {a : Int} {lv : Nat → Value} {ev uv : Value} (h : Cells cs n a lv ev uv) (k : Nat) (hk : k < 5) (nd : Nd) (v : Value) :
    Cells (setMany cs (k * 15) (ndRow nd v)) (upd n k nd) a (upd lv k v) ev uv := by
  have hs := h.size
  have inn : ∀ j u, j < 15 → (ndRow nd v)[j]? = some u → (setMany cs (k * 15) (ndRow nd v))[k * 15 + j]? = some u := fun j u hj hu => by
    rw [setMany_in _ _ _ _ (show j < (ndRow nd v).length from hj) (by omega)]; exact hu
  have out : ∀ j u, (j < k * 15 ∨ k * 15 + 15 ≤ j) → cs[j]? = some u → (setMany cs (k * 15) (ndRow nd v))[j]? = some u := fun j u hj hu => by
    rw [setMany_out _ _ _ _ (show j < k * 15 ∨ k * 15 + (ndRow nd v).length ≤ j from hj)]; exact hu
  refine { size := by rw [setMany_size]; exact hs, up := fun i hi => ?_, fol := fun i hi => ?_, giv := fun i hi => ?_, rol := fun i hi => ?_, log := fun i hi => ?_, has := fun i j hi hj => ?_, kno := fun i j hi hj => ?_, eps := out _ _ (by omega) h.eps, act := out _ _ (by omega) h.act, way := out _ _ (by omega) h.way }
  · by_cases e : i = k
    · subst e; rw [upd_same]; exact inn 0 _ (by omega) rfl
    · rw [upd_other _ _ _ _ e]; exact out _ _ (by omega) (h.up i hi)
  · by_cases e : i = k
    · subst e; rw [upd_same]; exact inn 1 _ (by omega) rfl
    · rw [upd_other _ _ _ _ e]; exact out _ _ (by omega) (h.fol i hi)
  · by_cases e : i = k
    · subst e; rw [upd_same]; exact inn 2 _ (by omega) rfl
    · rw [upd_other _ _ _ _ e]; exact out _ _ (by omega) (h.giv i hi)
  · by_cases e : i = k
    · subst e; rw [upd_same]; exact inn 3 _ (by omega) rfl
    · rw [upd_other _ _ _ _ e]; exact out _ _ (by omega) (h.rol i hi)
  · by_cases e : i = k
    · subst e; rw [upd_same]; exact inn 4 _ (by omega) rfl
    · rw [upd_other _ _ _ _ e]; exact out _ _ (by omega) (h.log i hi)
  · by_cases e : i = k
    · subst e; rw [upd_same, Nat.add_assoc]
      match j, hj with
      | 0, _ => exact inn 5 _ (by omega) rfl
      | 1, _ => exact inn 6 _ (by omega) rfl
      | 2, _ => exact inn 7 _ (by omega) rfl
      | 3, _ => exact inn 8 _ (by omega) rfl
      | 4, _ => exact inn 9 _ (by omega) rfl
    · rw [upd_other _ _ _ _ e]; exact out _ _ (by omega) (h.has i j hi hj)
  · by_cases e : i = k
    · subst e; rw [upd_same, Nat.add_assoc]
      match j, hj with
      | 0, _ => exact inn 10 _ (by omega) rfl
      | 1, _ => exact inn 11 _ (by omega) rfl
      | 2, _ => exact inn 12 _ (by omega) rfl
      | 3, _ => exact inn 13 _ (by omega) rfl
      | 4, _ => exact inn 14 _ (by omega) rfl
    · rw [upd_other _ _ _ _ e]; exact out _ _ (by omega) (h.kno i j hi hj)
def setCells (w : World) (b : Nat) : Nat → List Value → World
  | _, [] => w
  | o, v :: l => setCells (w.setCell ⟨b, o, none⟩ v) b (o + 1) l
theorem setCells_at : ∀ (l : List Value) (w : World) (b o : Nat) (cs : Array Value) (t : TypeId) (fr : Nat × Nat), w.heap[b]? = some (.cells cs t fr) → (setCells w b o l).heap[b]? = some (.cells (setMany cs o l) t fr)
  | [], w, b, o, cs, t, fr, h => h
  | v :: l, w, b, o, cs, t, fr, h => setCells_at l _ b (o + 1) _ t fr (heap_setCell_at w b o v cs t fr h)
theorem setCells_fr {S : Nat → Prop} : ∀ (l : List Value) (w : World) (b o : Nat), S b → Fr S w (setCells w b o l)
  | [], w, b, o, _ => Fr.refl _ _
  | v :: l, w, b, o, h => (Fr.setCell w ⟨b, o, none⟩ h v).then (setCells_fr l _ b (o + 1) h)
theorem setCells_far : ∀ (l : List Value) (w : World) (b o k : Nat), k ≠ b → (setCells w b o l).heap[k]? = w.heap[k]?
  | [], w, b, o, k, _ => rfl
  | v :: l, w, b, o, k, h => (setCells_far l _ b (o + 1) k h).trans (Below.heap_setCell _ _ _ _ h)
theorem Cells.same {cs : Array Value} {n : Nat → Nd} {a : Int} {lv : Nat → Value} {ev uv : Value} (h : Cells cs n a lv ev uv) (o : Nat) (v : Value) (hv : cs[o]? = some v) : Cells (cs.setIfInBounds o v) n a lv ev uv := by
  have : cs.setIfInBounds o v = cs := by
    apply Array.ext_getElem?
    intro i
    by_cases e : o = i
    · subst e
      rw [Array.getElem?_setIfInBounds_self, if_pos (Array.getElem?_eq_some_iff.1 hv).1]; exact hv.symm
    · rw [Array.getElem?_setIfInBounds_ne e]
  rw [this]; exact h
section
variable {w : World} {S : Nat → Prop} {b : Nat} {c : Clu} {lv : Nat → Value} {ev uv : Value} {mv : List (Msg × Value)}
/-- The cluster's own block is another one that turns neither logs nor lists. -/
theorem Rep.own {w' : World} (h : Rep w S b c lv ev uv mv) (nodes' : Nat → Nd) (a' : Int) (hl : ∀ k, k < 5 → (nodes' k).log = (c.nodes k).log)
    (hc : ∀ cs, w.heap[b]? = some (.cells cs 94 (0, 0)) → Cells cs c.nodes c.active lv ev uv → ∃ cs', w'.heap[b]? = some (.cells cs' 94 (0, 0)) ∧ Cells cs' nodes' a' lv ev uv)
    (hk : ∀ k, k ≠ b → w'.heap[k]? = w.heap[k]?) :
    Rep w' S b { c with nodes := nodes', active := a' } lv ev uv mv := by
  obtain ⟨cs, hb, hcs⟩ := h.blk
  have keep : ∀ {v' : Value} {n : Nat} {xs : List Value} {e sz : Nat}, w.ownsRow 0 e sz v' n xs → e ≠ 94 → w'.ownsRow 0 e sz v' n xs := by
    intro v' n xs e sz ho hne
    refine ownsRow_same ho fun g hg _ => hk g ?_
    obtain ⟨cu, hcu⟩ := ownsRow_block ho hg
    exact ne_of_type hcu hb hne
  refine { blk := hc cs hb hcs, inb := h.inb, logs := fun k hk => ?_, logS := h.logS, logD := h.logD, eps := keep h.eps (by decide), epS := h.epS, way := keep h.way (by decide), wayS := h.wayS, mvs := h.mvs
           recs := fun x hx => keep (h.recs x hx) (by decide), recS := h.recS, recD := h.recD }
  show w'.ownsRow 0 36 3 (lv k) (nodes' k).log.length (recCells (nodes' k).log)
  rw [hl k hk]; exact keep (h.logs k hk) (by decide)
/-- A store into the cluster's own block that turns neither logs nor lists. -/
theorem Rep.setOwn (h : Rep w S b c lv ev uv mv) (o : Nat) (v : Value) (nodes' : Nat → Nd) (a' : Int) (hl : ∀ k, k < 5 → (nodes' k).log = (c.nodes k).log) (hc : ∀ cs, Cells cs c.nodes c.active lv ev uv → Cells (cs.setIfInBounds o v) nodes' a' lv ev uv) :
    Rep (w.setCell ⟨b, o, none⟩ v) S b { c with nodes := nodes', active := a' } lv ev uv mv ∧ Fr S w (w.setCell ⟨b, o, none⟩ v) :=
  ⟨h.own nodes' a' hl (fun cs hb hcs => ⟨_, heap_setCell_at _ _ _ _ _ _ _ hb, hc cs hcs⟩) (fun k hk => Below.heap_setCell _ _ _ _ hk), Fr.setCell _ _ h.inb _⟩
theorem upd_log {n : Nat → Nd} {k : Nat} {nd : Nd} (h : nd.log = (n k).log) (i : Nat) : (upd n k nd i).log = (n i).log := by
  unfold upd; split
  · rename_i q; rw [q]; exact h
  · rfl
theorem upd_self {α : Type} (f : Nat → α) (k : Nat) : upd f k (f k) = f := by
  funext i; unfold upd; split
  · rename_i q; rw [q]
  · rfl
/-- A whole node is stored anew; its log stays. -/
theorem Rep.putNode (h : Rep w S b c lv ev uv mv) (k : Nat) (hk : k < 5) (nd : Nd) (hl : nd.log = (c.nodes k).log) :
    Rep (setCells w b (k * 15) (ndRow nd (lv k))) S b { c with nodes := upd c.nodes k nd } lv ev uv mv ∧ Fr S w (setCells w b (k * 15) (ndRow nd (lv k))) := by
  refine ⟨h.own (upd c.nodes k nd) c.active (fun i _ => upd_log hl i) (fun cs hb hcs => ⟨_, setCells_at _ _ _ _ _ _ _ hb, ?_⟩) (fun i hi => setCells_far _ _ _ _ _ hi), setCells_fr _ _ _ _ h.inb⟩
  have := hcs.node k hk nd (lv k)
  rw [upd_self] at this; exact this
theorem Rep.setKnown (h : Rep w S b c lv ev uv mv) (k : Nat) (hk : k < 5) (f : Nat) (hf : f < 5) (n : Int) :
    Rep (w.setCell ⟨b, k * 15 + 10 + f, none⟩ (.int .i64 n)) S b { c with nodes := upd c.nodes k { c.nodes k with known := upd (c.nodes k).known f n } } lv ev uv mv ∧ Fr S w (w.setCell ⟨b, k * 15 + 10 + f, none⟩ (.int .i64 n)) :=
  h.setOwn _ _ _ c.active (fun i hi => upd_log (n := c.nodes) (k := k) (by rfl) i) fun cs hcs => by
    rw [Nat.add_assoc]
    refine hcs.putNd k hk (10 + f) (by omega) (by omega) _ _ (if_neg (by omega)) (if_neg (by omega)) (if_neg (by omega)) (if_neg (by omega)) (fun j hj => if_neg (by omega)) (fun j hj => ?_)
    by_cases e : j = f
    · subst e; rw [if_pos rfl]; show _ = Value.int .i64 (upd (c.nodes k).known j n j); rw [upd_same]
    · rw [if_neg (by omega)]; show _ = Value.int .i64 (upd (c.nodes k).known f n j); rw [upd_other _ _ _ _ e]
theorem Rep.setHas (h : Rep w S b c lv ev uv mv) (k : Nat) (hk : k < 5) (f : Nat) (hf : f < 5) (x : Bool) :
    Rep (w.setCell ⟨b, k * 15 + 5 + f, none⟩ (.bool x)) S b { c with nodes := upd c.nodes k { c.nodes k with has := upd (c.nodes k).has f x } } lv ev uv mv ∧ Fr S w (w.setCell ⟨b, k * 15 + 5 + f, none⟩ (.bool x)) :=
  h.setOwn _ _ _ c.active (fun i hi => upd_log (n := c.nodes) (k := k) (by rfl) i) fun cs hcs => by
    rw [Nat.add_assoc]
    refine hcs.putNd k hk (5 + f) (by omega) (by omega) _ _ (if_neg (by omega)) (if_neg (by omega)) (if_neg (by omega)) (if_neg (by omega)) (fun j hj => ?_) (fun j hj => if_neg (by omega))
    by_cases e : j = f
    · subst e; rw [if_pos rfl]; show _ = Value.bool (upd (c.nodes k).has j x j); rw [upd_same]
    · rw [if_neg (by omega)]; show _ = Value.bool (upd (c.nodes k).has f x j); rw [upd_other _ _ _ _ e]
theorem Rep.setUp (h : Rep w S b c lv ev uv mv) (k : Nat) (hk : k < 5) (x : Bool) :
    Rep (w.setCell ⟨b, k * 15, none⟩ (.bool x)) S b { c with nodes := upd c.nodes k { c.nodes k with up := x } } lv ev uv mv ∧ Fr S w (w.setCell ⟨b, k * 15, none⟩ (.bool x)) :=
  h.setOwn _ _ _ c.active (fun i hi => upd_log (n := c.nodes) (k := k) (by rfl) i) fun cs hcs =>
    hcs.putNd k hk 0 (by omega) (by omega) _ _ (if_pos rfl) (if_neg (by omega)) (if_neg (by omega)) (if_neg (by omega)) (fun j hj => if_neg (by omega)) (fun j hj => if_neg (by omega))
theorem Rep.setGiv (h : Rep w S b c lv ev uv mv) (k : Nat) (hk : k < 5) (x : Int) :
    Rep (w.setCell ⟨b, k * 15 + 2, none⟩ (.int .i64 x)) S b { c with nodes := upd c.nodes k { c.nodes k with given := x } } lv ev uv mv ∧ Fr S w (w.setCell ⟨b, k * 15 + 2, none⟩ (.int .i64 x)) :=
  h.setOwn _ _ _ c.active (fun i hi => upd_log (n := c.nodes) (k := k) (by rfl) i) fun cs hcs =>
    hcs.putNd k hk 2 (by omega) (by omega) _ _ (if_neg (by omega)) (if_neg (by omega)) (if_pos rfl) (if_neg (by omega)) (fun j hj => if_neg (by omega)) (fun j hj => if_neg (by omega))
theorem Rep.setRol (h : Rep w S b c lv ev uv mv) (k : Nat) (hk : k < 5) (x : Int) :
    Rep (w.setCell ⟨b, k * 15 + 3, none⟩ (.int .i64 x)) S b { c with nodes := upd c.nodes k { c.nodes k with role := x } } lv ev uv mv ∧ Fr S w (w.setCell ⟨b, k * 15 + 3, none⟩ (.int .i64 x)) :=
  h.setOwn _ _ _ c.active (fun i hi => upd_log (n := c.nodes) (k := k) (by rfl) i) fun cs hcs =>
    hcs.putNd k hk 3 (by omega) (by omega) _ _ (if_neg (by omega)) (if_neg (by omega)) (if_neg (by omega)) (if_pos rfl) (fun j hj => if_neg (by omega)) (fun j hj => if_neg (by omega))
theorem Rep.setAct (h : Rep w S b c lv ev uv mv) (x : Int) :
    Rep (w.setCell ⟨b, 76, none⟩ (.int .i64 x)) S b { c with active := x } lv ev uv mv ∧ Fr S w (w.setCell ⟨b, 76, none⟩ (.int .i64 x)) :=
  h.setOwn _ _ c.nodes x (fun i hi => rfl) fun cs hcs =>
    hcs.put 76 _ (by omega) (fun i hi => if_neg (by omega)) (fun i hi => if_neg (by omega)) (fun i hi => if_neg (by omega)) (fun i hi => if_neg (by omega)) (fun i hi => if_neg (by omega)) (fun i j hi hj => if_neg (by omega)) (fun i j hi hj => if_neg (by omega))
      (if_neg (by omega)) (if_pos rfl) (if_neg (by omega))
/-- All cells of a node. -/
theorem Rep.node (h : Rep w S b c lv ev uv mv) (k : Nat) (hk : k < 5) :
    w.cell? ⟨b, k * 15, none⟩ = some (.bool (c.nodes k).up) ∧ w.cell? ⟨b, k * 15 + 1, none⟩ = some (.int .i64 (c.nodes k).follows) ∧ w.cell? ⟨b, k * 15 + 2, none⟩ = some (.int .i64 (c.nodes k).given) ∧
    w.cell? ⟨b, k * 15 + 3, none⟩ = some (.int .i64 (c.nodes k).role) ∧ w.cell? ⟨b, k * 15 + 4, none⟩ = some (lv k) :=
  ⟨h.cUp k hk, h.cFol k hk, h.cGiv k hk, h.cRol k hk, h.cLog k hk⟩
theorem Rep.nodeHas (h : Rep w S b c lv ev uv mv) (k : Nat) (hk : k < 5) :
    w.cell? ⟨b, k * 15 + 5, none⟩ = some (.bool ((c.nodes k).has 0)) ∧ w.cell? ⟨b, k * 15 + 6, none⟩ = some (.bool ((c.nodes k).has 1)) ∧ w.cell? ⟨b, k * 15 + 7, none⟩ = some (.bool ((c.nodes k).has 2)) ∧
    w.cell? ⟨b, k * 15 + 8, none⟩ = some (.bool ((c.nodes k).has 3)) ∧ w.cell? ⟨b, k * 15 + 9, none⟩ = some (.bool ((c.nodes k).has 4)) :=
  ⟨h.cHas k 0 hk (by omega), h.cHas k 1 hk (by omega), h.cHas k 2 hk (by omega), h.cHas k 3 hk (by omega), h.cHas k 4 hk (by omega)⟩
theorem Rep.nodeKno (h : Rep w S b c lv ev uv mv) (k : Nat) (hk : k < 5) :
    w.cell? ⟨b, k * 15 + 10, none⟩ = some (.int .i64 ((c.nodes k).known 0)) ∧ w.cell? ⟨b, k * 15 + 11, none⟩ = some (.int .i64 ((c.nodes k).known 1)) ∧ w.cell? ⟨b, k * 15 + 12, none⟩ = some (.int .i64 ((c.nodes k).known 2)) ∧
    w.cell? ⟨b, k * 15 + 13, none⟩ = some (.int .i64 ((c.nodes k).known 3)) ∧ w.cell? ⟨b, k * 15 + 14, none⟩ = some (.int .i64 ((c.nodes k).known 4)) :=
  ⟨h.cKno k 0 hk (by omega), h.cKno k 1 hk (by omega), h.cKno k 2 hk (by omega), h.cKno k 3 hk (by omega), h.cKno k 4 hk (by omega)⟩
end
end Go.Proofs.Ythpjcmilfipbaaa

namespace Go.Proofs.Ythpjcmilfipbaaa
set_option linter.unusedVariables false
set_option linter.unusedSimpArgs false
def downNd (n : Nd) : Nd := { up := false, follows := n.follows, given := n.given, role := 0, log := n.log, has := fun _ => false, known := fun _ => 0 }
def crash (c : Clu) (node : Int) : Clu × Int := if refNode c node = 0 then ({ c with nodes := upd c.nodes node.toNat (downNd (c.nodes node.toNat)) }, 0) else (c, refNode c node)
def restart (c : Clu) (node : Int) : Clu × Int :=
  if nodeB node then (if (c.nodes node.toNat).up then (c, 4) else ({ c with nodes := upd c.nodes node.toNat { c.nodes node.toNat with up := true } }, 0)) else (c, 2)
def ackMsg (k : Nat) (m : Msg) (n : Int) : Msg := { kind := 9, frm := k, to := m.frm, epoch := m.epoch, n := n, recs := [] }
def takePut (c : Clu) (k : Nat) (m : Msg) : Clu := if m.n = ((c.nodes k).log.length : Int) then putLog c k ((c.nodes k).log ++ m.recs) else c
def takeApp (c : Clu) (k : Nat) (m : Msg) : Clu :=
  if (c.nodes k).follows = m.epoch ∧ (c.nodes k).given = m.epoch ∧ (c.nodes k).role = 0 then send (takePut c k m) (ackMsg k m ((takePut c k m).nodes k).log.length) else c
def putKnown (c : Clu) (k f : Nat) (n : Int) : Clu := { c with nodes := upd c.nodes k { c.nodes k with known := upd (c.nodes k).known f n } }
def knowTo (c : Clu) (k f : Nat) (n : Int) : Clu := if (c.nodes k).known f < n then putKnown c k f n else c
def takeAck (c : Clu) (k : Nat) (m : Msg) : Clu :=
  if (c.nodes k).follows = m.epoch ∧ (c.nodes k).role = 3 ∧ nodeB m.frm = true then sendFirst (knowTo c k m.frm.toNat m.n) k m.frm.toNat else c
def followNd (n : Nd) (e role : Int) : Nd := { up := n.up, follows := e, given := n.given, role := role, log := n.log, has := fun _ => false, known := fun _ => 0 }
def follow (c : Clu) (k : Nat) (e role : Int) : Clu := { c with nodes := upd c.nodes k (followNd (c.nodes k) e role) }
def follow0 (c : Clu) (k : Nat) (e : Int) : Clu := if (c.nodes k).follows < e then follow c k e 0 else c
def toldMsg (c : Clu) (kind : Int) : Msg := { kind := kind, frm := -1, to := (epochOf c c.epochs.length).leader, epoch := c.epochs.length, n := 0, recs := [] }
def sendToLeader (c : Clu) (kind : Int) : Clu := send c (toldMsg c kind)
def putActive (c : Clu) (e : Int) : Clu := { c with active := e }
def takeReady (c : Clu) (m : Msg) : Clu := if m.epoch = c.epochs.length then sendToLeader (putActive c m.epoch) 7 else c
def readMsg (k j : Nat) (e : Int) : Msg := { kind := 2, frm := k, to := j, epoch := e, n := 0, recs := [] }
def readsTo (c : Clu) (k : Nat) (e q : Int) : Nat → Clu
  | 0 => c
  | j + 1 => if amongB q j then send (readsTo c k e q j) (readMsg k j e) else readsTo c k e q j
def sendReads (c : Clu) (k : Nat) : Clu := readsTo c k (c.nodes k).follows (epochOf c (epochOf c (c.nodes k).follows).before).members 5
def logMsg (c : Clu) (kind : Int) (k : Nat) (to : Int) : Msg := { kind := kind, frm := k, to := to, epoch := (c.nodes k).follows, n := (c.nodes k).log.length, recs := (c.nodes k).log }
def sendLog (c : Clu) (kind : Int) (k : Nat) (to : Int) : Clu := send c (logMsg c kind k to)
def lacks (c : Clu) (k j : Nat) : Bool := !(c.nodes k).has j && isOther c k j
def allTo (c : Clu) (k : Nat) : Nat → Bool
  | 0 => true
  | j + 1 => allTo c k j && !lacks c k j
def allHave (c : Clu) (k : Nat) : Bool := allTo c k 5
def readyMsg (c : Clu) (k : Nat) : Msg := { kind := 6, frm := k, to := -1, epoch := (c.nodes k).follows, n := 0, recs := [] }
def sendReady (c : Clu) (k : Nat) : Clu := send c (readyMsg c k)
def handTo (c : Clu) (k : Nat) : Nat → Clu
  | 0 => c
  | j + 1 => if lacks (handTo c k j) k j then sendLog (handTo c k j) 4 k j else handTo c k j
def handOn (c : Clu) (k : Nat) : Clu := if allHave c k then sendReady c k else handTo c k 5
def wakeTo (c : Clu) (k : Nat) (e : Int) : Clu := if (c.nodes k).follows < e ∨ ((c.nodes k).role = 0 ∧ (c.nodes k).given < e) then follow c k e 1 else c
def startOn (c : Clu) (k : Nat) : Clu := if (c.nodes k).role = 1 then sendReads c k else if (c.nodes k).role = 2 then handOn c k else c
def takeStart (c : Clu) (k : Nat) (m : Msg) : Clu := startOn (wakeTo c k m.epoch) k
def takeRead (c : Clu) (k : Nat) (m : Msg) : Clu := sendLog (follow0 c k m.epoch) 3 k m.frm
def giveLog (c : Clu) (k : Nat) (l : List Rec) (e : Int) : Clu := { c with nodes := upd c.nodes k { c.nodes k with log := l, given := e } }
def putRole (c : Clu) (k : Nat) (r : Int) : Clu := { c with nodes := upd c.nodes k { c.nodes k with role := r } }
def takeLogIn (c : Clu) (k : Nat) (m : Msg) : Clu :=
  if (c.nodes k).follows = m.epoch ∧ (c.nodes k).role = 1 then handOn (putRole (giveLog c k m.recs m.epoch) k 2) k else c
def haveMsg (k : Nat) (m : Msg) : Msg := { kind := 5, frm := k, to := m.frm, epoch := m.epoch, n := 0, recs := [] }
def give0 (c : Clu) (k : Nat) (m : Msg) : Clu := if (c.nodes k).given < m.epoch then giveLog c k m.recs m.epoch else c
def takeState (c : Clu) (k : Nat) (m : Msg) : Clu := send (give0 (follow0 c k m.epoch) k m) (haveMsg k m)
def putHas (c : Clu) (k f : Nat) : Clu := { c with nodes := upd c.nodes k { c.nodes k with has := upd (c.nodes k).has f true } }
def takeHave (c : Clu) (k : Nat) (m : Msg) : Clu :=
  if (c.nodes k).follows = m.epoch ∧ (c.nodes k).role = 2 ∧ nodeB m.frm = true then (if allHave (putHas c k m.frm.toNat) k then sendReady (putHas c k m.frm.toNat) k else putHas c k m.frm.toNat) else c
def servTo (c : Clu) (k : Nat) (n : Int) : Nat → Clu
  | 0 => c
  | j + 1 => if isOther (servTo c k n j) k j then putKnown (servTo c k n j) k j n else servTo c k n j
def takeServe (c : Clu) (k : Nat) (m : Msg) : Clu :=
  if (c.nodes k).follows = m.epoch ∧ (c.nodes k).role = 2 then servTo (follow c k m.epoch 3) k (c.nodes k).log.length 5 else c
def takeKind (c : Clu) (k : Nat) (m : Msg) : Clu :=
  if m.kind = 1 then takeStart c k m else if m.kind = 2 then takeRead c k m else if m.kind = 3 then takeLogIn c k m else if m.kind = 4 then takeState c k m
  else if m.kind = 5 then takeHave c k m else if m.kind = 7 then takeServe c k m else if m.kind = 8 then takeApp c k m else if m.kind = 9 then takeAck c k m else c
def takeIn (c : Clu) (m : Msg) : Clu :=
  if m.to = -1 then takeReady c m
  else if nodeB m.to = true ∧ (c.nodes m.to.toNat).up = true ∧ (c.nodes m.to.toNat).follows ≤ m.epoch then takeKind c m.to.toNat m else c
def deliver (c : Clu) (i : Int) : Clu × Int := if underB c i then (match c.ways[i.toNat]? with | some m => takeIn (takeOut c i.toNat) m | none => c, 0) else (c, 13)
def memB (q : Int) : Bool := decide (0 < q) && decide (q < 32)
def addEpoch (c : Clu) (q l : Int) : Clu := { c with epochs := c.epochs ++ [⟨q, l, c.active⟩] }
def reconf (c : Clu) (q l : Int) : Clu × Int :=
  if memB q = true ∧ amongB q l = true then (if 40 ≤ c.epochs.length then (c, 11) else (sendToLeader (addEpoch c q l) 1, 0)) else (c, 10)
def remind (c : Clu) : Clu × Int := if c.active = c.epochs.length then (c, 12) else (sendToLeader c 1, 0)
end Go.Proofs.Ythpjcmilfipbaaa
