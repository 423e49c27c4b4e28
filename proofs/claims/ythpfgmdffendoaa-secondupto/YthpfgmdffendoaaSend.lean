/- My own text. Walks: send. -/
import Derived.Test.YthpfgmdffendoaaOff
namespace Go.Proofs.Ythpfgmdffendoaa
set_option linter.unusedVariables false
set_option linter.unusedSimpArgs false
open Go.RowKit

theorem infoMsg : (Try.prog.info? 91).map (fun i => (i.zero, i.size, i.bytes)) = some (some (.agg #[.int .i64 0, .int .i64 0, .int .i64 0, .int .i64 0, .int .i64 0, .slice none 0 0]), 6, 64) := by kernel_rfl
theorem infoRec : (Try.prog.info? 36).map (fun i => (i.zero, i.size, i.bytes)) = some (some (.agg #[.int .i64 0, .int .i64 0, .int .i64 0]), 3, 24) := by kernel_rfl

/-- The cluster's block behind a store. -/
theorem Cells.setWay {cs : Array Value} {n : Nat → Nd} {lv : Nat → Value} {ev uv : Value} (h : Cells cs n lv ev uv) (uv' : Value) : Cells (cs.setIfInBounds 51 uv') n lv ev uv' := by
  have hs := h.size
  constructor
  · simp [hs]
  · intro k hk; rw [Array.getElem?_setIfInBounds_ne (by omega)]; exact h.up k hk
  · intro k hk; rw [Array.getElem?_setIfInBounds_ne (by omega)]; exact h.fol k hk
  · intro k hk; rw [Array.getElem?_setIfInBounds_ne (by omega)]; exact h.giv k hk
  · intro k hk; rw [Array.getElem?_setIfInBounds_ne (by omega)]; exact h.rol k hk
  · intro k hk; rw [Array.getElem?_setIfInBounds_ne (by omega)]; exact h.log k hk
  · intro k j hk hj; rw [Array.getElem?_setIfInBounds_ne (by omega)]; exact h.kno k j hk hj
  · rw [Array.getElem?_setIfInBounds_ne (by omega)]; exact h.eps
  · rw [Array.getElem?_setIfInBounds_self, if_pos (by omega)]
theorem msgRow_one (m : Msg) (rv : Value) (h : rv.oneCell' = true) : ∀ u ∈ msgRow (m, rv), u.oneCell' = true := by
  intro u hu
  simp only [msgRow, List.mem_cons, List.not_mem_nil, or_false] at hu
  rcases hu with rfl | rfl | rfl | rfl | rfl | rfl <;> first | rfl | exact h

section
variable {w : World} {S : Nat → Prop} {b : Nat} {c : Clu} {lv : Nat → Value} {ev uv : Value} {mv : List (Msg × Value)}
/-- The list of messages is another one now: all other blocks of the cluster are as they were. -/
theorem Rep.newWay {w' : World} (h : Rep w S b c lv ev uv mv) {S' : Nat → Prop} (hS : ∀ k, S k → S' k) (uv' : Value) (mv' : List (Msg × Value)) (ways' : List Msg)
    (hk : ∀ k, k < w.heap.size → k ≠ b → uv.ownBlock ≠ some k → w'.heap[k]? = w.heap[k]?)
    (hb : ∀ cs, w.heap[b]? = some (.cells cs 84 (0, 0)) → w'.heap[b]? = some (.cells (cs.setIfInBounds 51 uv') 84 (0, 0)))
    (hown : w'.ownsRow 0 91 6 uv' mv'.length (msgCells mv')) (hS' : ∀ g, uv'.ownBlock = some g → S' g) (hmv : mv'.map Prod.fst = ways')
    (hr : ∀ x, x ∈ mv' → w'.ownsRow 0 36 3 x.2 x.1.recs.length (recCells x.1.recs)) (hrS : ∀ x g, x ∈ mv' → x.2.ownBlock = some g → S' g)
    (hrD : ∀ x k g, x ∈ mv' → k < 5 → x.2.ownBlock = some g → (lv k).ownBlock ≠ some g) : Rep w' S' b { c with ways := ways' } lv ev uv' mv' := by
  obtain ⟨cs, hbl, hc⟩ := h.blk
  have nuv : ∀ {g : Nat} {cur : Array Value} {e : TypeId}, w.heap[g]? = some (.cells cur e (0, 0)) → e ≠ 91 → uv.ownBlock ≠ some g := by
    intro g cur e hg he hu
    obtain ⟨cu, hcu⟩ := ownsRow_block h.way hu
    exact ne_of_type hg hcu he rfl
  have old : ∀ {v : Value} {n : Nat} {xs : List Value} {e sz : Nat}, w.ownsRow 0 e sz v n xs → e ≠ 91 → e ≠ 84 → w'.ownsRow 0 e sz v n xs := by
    intro v n xs e sz ho h1 h2
    refine ownsRow_same ho fun g hg hl => ?_
    obtain ⟨cu, hcu⟩ := ownsRow_block ho hg
    exact hk g hl (ne_of_type hcu hbl h2) (nuv hcu h1)
  exact { blk := ⟨_, hb cs hbl, hc.setWay uv'⟩, inb := hS _ h.inb
          logs := fun k h5 => old (h.logs k h5) (by decide) (by decide), logS := fun k g h5 hg => hS _ (h.logS k g h5 hg), logD := h.logD
          eps := old h.eps (by decide) (by decide), epS := fun g hg => hS _ (h.epS g hg)
          way := hown, wayS := hS', mvs := hmv, recs := hr, recS := hrS, recD := hrD }

/-- What an append to the list of messages, and the store of the new list, come to. -/
theorem Rep.sent {W w1 : World} (h : Rep w S b c lv ev uv mv) (hW : Fr No w W) (m : Msg) (rv v' : Value) (n gg : Nat) (hn : n = mv.length + 1) (hv' : v'.ownBlock = some gg)
    (hrv : w.ownsRow 0 36 3 rv m.recs.length (recCells m.recs)) (hrS : ∀ g, rv.ownBlock = some g → S g)
    (hrD : ∀ k g, k < 5 → rv.ownBlock = some g → (lv k).ownBlock ≠ some g)
    (hown : w1.ownsRow 0 91 6 v' n (msgCells mv ++ msgRow (m, rv))) (hgrow : W.grownBy w1 uv.ownBlock) (hat : uv.ownBlock = some gg ∨ w.heap.size ≤ gg) :
    Rep (w1.setCell ⟨b, 51, none⟩ v') (Ext S w) b { c with ways := c.ways ++ [m] } lv ev v' (mv ++ [(m, rv)]) ∧ Fr S w (w1.setCell ⟨b, 51, none⟩ v') := by
  obtain ⟨cs, hbl, hc⟩ := h.blk
  have hb := h.lt
  have hblkne : ∀ {g : Nat} {v : Value} {k : Nat} {xs : List Value} {e sz : Nat}, w.ownsRow 0 e sz v k xs → v.ownBlock = some g → e ≠ 84 → g ≠ b := by
    intro g v k xs e sz ho hg he
    obtain ⟨cu, hcu⟩ := ownsRow_block ho hg
    exact ne_of_type hcu hbl he
  have hgb : gg ≠ b := by
    rcases hat with e | e
    · exact hblkne h.way e (by decide)
    · omega
  have hold : ∀ k, k < w.heap.size → uv.ownBlock ≠ some k → w1.heap[k]? = w.heap[k]? := fun k hk hu =>
    (hgrow.block k (Nat.lt_of_lt_of_le hk hW.size) (fun e => hu e.symm)).trans (hW.block k hk (fun e => e))
  have hset : ∀ k, k ≠ b → (w1.setCell ⟨b, 51, none⟩ v').heap[k]? = w1.heap[k]? := fun k hk => Below.heap_setCell _ _ _ _ hk
  have hub : uv.ownBlock ≠ some b := fun e => hblkne h.way e (by decide) rfl
  refine ⟨?_, ?_⟩
  · refine h.newWay (fun k hk => Or.inl hk) v' (mv ++ [(m, rv)]) _ (fun k hk hkb hu => (hset k hkb).trans (hold k hk hu)) ?_ ?_ ?_ (by simp [h.mvs]) ?_ ?_ ?_
    · intro cs' hcs'
      exact heap_setCell_at _ _ _ _ _ _ _ ((hold b hb hub).trans hcs')
    · have := ownsRow_same (w' := w1.setCell ⟨b, 51, none⟩ v') hown (fun g hg _ => hset g (by rw [hv'] at hg; simp at hg; omega))
      rw [msgCells_append, hn] at *
      simpa [msgCells] using this
    · intro g hg
      rw [hv'] at hg; simp at hg; subst hg
      rcases hat with e | e
      · exact Or.inl (h.wayS _ e)
      · exact Or.inr e
    · intro x hx
      have keep : ∀ {v : Value} {l : List Rec}, w.ownsRow 0 36 3 v l.length (recCells l) → (w1.setCell ⟨b, 51, none⟩ v').ownsRow 0 36 3 v l.length (recCells l) := by
        intro v l ho
        refine ownsRow_same ho fun g hg hl => ?_
        have h1 : g ≠ b := hblkne ho hg (by decide)
        obtain ⟨cu, hcu⟩ := ownsRow_block ho hg
        rw [hset g h1, hold g hl]
        intro e
        obtain ⟨cu', hcu'⟩ := ownsRow_block h.way e
        exact ne_of_type hcu hcu' (by decide) rfl
      rcases List.mem_append.1 hx with hx | hx
      · exact keep (h.recs x hx)
      · simp at hx; subst hx; exact keep hrv
    · intro x g hx hg
      rcases List.mem_append.1 hx with hx | hx
      · exact Or.inl (h.recS x g hx hg)
      · simp at hx; subst hx; exact Or.inl (hrS g hg)
    · intro x k g hx hk hg
      rcases List.mem_append.1 hx with hx | hx
      · exact h.recD x k g hx hk hg
      · simp at hx; subst hx; exact hrD k g hk hg
  · have f1 : Fr S w w1 := (hW.mono (fun _ e => e.elim)).then (Fr.grown hgrow fun k hk => h.wayS k hk)
    exact f1.then (Fr.setCell _ _ h.inb _)

set_option maxHeartbeats 3200000 in
set_option maxRecDepth 100000 in
theorem send_any (h : Rep w S b c lv ev uv mv) (hok : Ok c) (m : Msg) (rv : Value) (hrv : w.ownsRow 0 36 3 rv m.recs.length (recCells m.recs)) (hrS : ∀ g, rv.ownBlock = some g → S g)
    (hrD : ∀ k g, k < 5 → rv.ownBlock = some g → (lv k).ownBlock ≠ some g) :
    Calls Try.prog 39 #[.pointer (some ⟨b, 0, none⟩), .agg #[.int .i64 m.kind, .int .i64 m.frm, .int .i64 m.to, .int .i64 m.epoch, .int .i64 m.n, rv]] w fun e w' =>
      e = .returned (.tuple #[]) ∧ (∃ uv' mv', Rep w' (Ext S w) b (send c m) lv ev uv' mv') ∧ Fr S w w' := by
  have hw := h.cWay
  have hl := h.ways_len
  obtain ⟨ao, cap, hu, hcap, hblk, _⟩ := ownsRow_shape h.way
  have hb := h.lt
  have hfr := h.free 51
  have H : Hid (Rep w S b c lv ev uv mv) := h
  have HV : Hid (w.ownsRow 0 36 3 rv m.recs.length (recCells m.recs)) := hrv
  have hW : Hid (w.ownsRow 0 91 6 uv c.ways.length (msgCells mv)) := by rw [← hl]; exact h.way
  rw [hl] at hu
  have HL : Hid (mv.length = c.ways.length) := hl
  clear hl hcap
  have hne : uv.ownBlock ≠ some b := by
    intro e
    obtain ⟨cs, hbl, _⟩ := h.blk
    obtain ⟨cu, hcu⟩ := ownsRow_block h.way e
    exact ne_of_type hcu hbl (by decide) rfl
  have hone : rv.oneCell' = true := by
    obtain ⟨_, _, e, _⟩ := ownsRow_shape hrv
    rw [e]; rfl
  have hnb : some w.heap.size ≠ uv.ownBlock := by
    intro e
    have := (h.way.lt _ e.symm).2
    omega
  clear h hrv
  have hways := hok.ways
  by_cases hfull : 50 ≤ c.ways.length
  · have HF : Hid (send c m = c) := by show send c m = c; simp [send, hfull]
    subst hu
    have hge : (50 : Int) ≤ (c.ways.length : Int) := by omega
    go_enter Try.func39, Try.ntmps39
    go_wp2
    exact bodyPost_ret (results_none rfl _ _ _) rfl ⟨rfl, ⟨_, _, by rw [HF.out]; exact (H.out.alloc _).mono fun k _ hk => Or.inl hk⟩, Fr.alloc _ _ _⟩
  · have HF : Hid (send c m = { c with ways := c.ways ++ [m] }) := by show send c m = _; simp [send, hfull]
    have hlt : (c.ways.length : Int) < 50 := by omega
    have hlt' : c.ways.length < 50 := by omega
    obtain ⟨i0, hi0, hz0, hz1, hz2⟩ := info_parts infoMsg
    subst hu
    go_enter Try.func39, Try.ntmps39
    go_wp2_with fail
    have hnews := msgRow_one m rv hone
    go_region_law ((refine step_append_lies _ (by rfl) _ _ _ (by rfl) 0 91 i0 _ 6 64 Try.underlying82 hi0 hz0 hz1 hz2 rfl (by omega) (.slice ao c.ways.length cap) c.ways.length (msgCells mv) (by rfl) (((hW.out.alloc _).alloc _).drew) ⟨w.heap.size + 1, 0, none⟩ 1 1 (msgRow (m, rv)) (by rfl) (by rfl) (World.news_of_block (cs := (msgRow (m, rv)).toArray) (t := 91) (fr := (0, 0)) (heap_alloc2_new w _ _)) hnews (by omega) (by unfold maxLen; omega) (by omega) (by omega) (w.heap.size + 2) (by simp) ?_; intro gg cap' w1 hown1 hgrow hat hlt2; have hc51 : w1.cell? ⟨b, 51, none⟩ = some (.slice ao c.ways.length cap) := (by rw [hgrow.cell_far _ (by simp; omega) (Ne.symm hne)]; simp [World.cell?_alloc_some, hw]); have hf51 : w1.frozen? ⟨b, 51, none⟩ = false := (by rw [hgrow.frozen_far _ (by simp; omega) (Ne.symm hne)]; simp [frozen?_alloc_cells, hfr])))
    all_goals go_wp2
    all_goals
      refine bodyPost_end (results_none rfl _ _ _) rfl ?_
      have R := H.out.sent (W := ((w.alloc _).alloc _).drew) (((Fr.alloc _ _ _).then (Fr.alloc _ _ _)).then (Fr.drew _ _)) m rv (.slice (some ⟨gg, 0, none⟩) (c.ways.length + 1) cap') (c.ways.length + 1) gg (by rw [HL.out]) rfl HV.out hrS hrD hown1 hgrow (orR hat fun e => by omega)
      exact ⟨rfl, ⟨_, _, by rw [HF.out]; exact R.1⟩, R.2⟩
end
end Go.Proofs.Ythpfgmdffendoaa
