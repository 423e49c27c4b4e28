/- My own text. Walks: write. -/
import Derived.Test.YthpfgmdffendoaaSends
namespace Go.Proofs.Ythpfgmdffendoaa
set_option linter.unusedVariables false
set_option linter.unusedSimpArgs false
open Go.RowKit

theorem putLog_at (c : Clu) (k : Nat) (l : List Rec) (i : Nat) : ((putLog c k l).nodes i).up = (c.nodes i).up ∧ ((putLog c k l).nodes i).follows = (c.nodes i).follows ∧ ((putLog c k l).nodes i).given = (c.nodes i).given ∧
    ((putLog c k l).nodes i).role = (c.nodes i).role ∧ ((putLog c k l).nodes i).known = (c.nodes i).known ∧ ((putLog c k l).nodes i).log = if i = k then l else (c.nodes i).log := by
  unfold putLog upd
  by_cases h : i = k
  · subst h; simp
  · simp [h]
theorem Cells.setLog {cs : Array Value} {c : Clu} {lv : Nat → Value} {ev uv : Value} (h : Cells cs c.nodes lv ev uv) (k : Nat) (hk : k < 5) (v' : Value) (l : List Rec) :
    Cells (cs.setIfInBounds (k * 10 + 4) v') (putLog c k l).nodes (upd lv k v') ev uv := by
  have hs := h.size
  have e := putLog_at c k l
  constructor
  · simp [hs]
  · intro i hi; rw [Array.getElem?_setIfInBounds_ne (by omega), (e i).1]; exact h.up i hi
  · intro i hi; rw [Array.getElem?_setIfInBounds_ne (by omega), (e i).2.1]; exact h.fol i hi
  · intro i hi; rw [Array.getElem?_setIfInBounds_ne (by omega), (e i).2.2.1]; exact h.giv i hi
  · intro i hi; rw [Array.getElem?_setIfInBounds_ne (by omega), (e i).2.2.2.1]; exact h.rol i hi
  · intro i hi
    by_cases hik : i = k
    · subst hik; rw [upd_same, Array.getElem?_setIfInBounds_self, if_pos (by omega)]
    · rw [upd_other _ _ _ _ hik, Array.getElem?_setIfInBounds_ne (by omega)]; exact h.log i hi
  · intro i j hi hj; rw [Array.getElem?_setIfInBounds_ne (by omega), (e i).2.2.2.2.1]; exact h.kno i j hi hj
  · rw [Array.getElem?_setIfInBounds_ne (by omega)]; exact h.eps
  · rw [Array.getElem?_setIfInBounds_ne (by omega)]; exact h.way
def recRow (r : Rec) : List Value := [.int .i64 r.p, .int .i64 r.s, .int .i64 r.v]
theorem recRow_one (r : Rec) : ∀ u ∈ recRow r, u.oneCell' = true := by
  intro u hu
  simp only [recRow, List.mem_cons, List.not_mem_nil, or_false] at hu
  rcases hu with rfl | rfl | rfl <;> rfl

section
variable {w : World} {S : Nat → Prop} {b : Nat} {c : Clu} {lv : Nat → Value} {ev uv : Value} {mv : List (Msg × Value)}
/-- What an append to a log, and the store of the new log, come to. -/
theorem Rep.logged {W w1 : World} (h : Rep w S b c lv ev uv mv) (hW : Fr No w W) (k : Nat) (hk : k < 5) (l : List Rec) (v' : Value) (n gg : Nat) (hn : n = l.length) (hv' : v'.ownBlock = some gg)
    (hown : w1.ownsRow 0 36 3 v' n (recCells l)) (hgrow : W.grownBy w1 (lv k).ownBlock) (hat : (lv k).ownBlock = some gg ∨ w.heap.size ≤ gg) :
    Rep (w1.setCell ⟨b, k * 10 + 4, none⟩ v') (Ext S w) b (putLog c k l) (upd lv k v') ev uv mv ∧ Fr S w (w1.setCell ⟨b, k * 10 + 4, none⟩ v') := by
  obtain ⟨cs, hbl, hc⟩ := h.blk
  have hb := h.lt
  have e := putLog_at c k l
  have hblkne : ∀ {g : Nat} {v : Value} {m : Nat} {xs : List Value} {e sz : Nat}, w.ownsRow 0 e sz v m xs → v.ownBlock = some g → e ≠ 84 → g ≠ b := by
    intro g v m xs e sz ho hg he
    obtain ⟨cu, hcu⟩ := ownsRow_block ho hg
    exact ne_of_type hcu hbl he
  have hgb : gg ≠ b := by
    rcases hat with e | e
    · exact hblkne (h.logs k hk) e (by decide)
    · omega
  have hold : ∀ i, i < w.heap.size → (lv k).ownBlock ≠ some i → w1.heap[i]? = w.heap[i]? := fun i hi hu =>
    (hgrow.block i (Nat.lt_of_lt_of_le hi hW.size) (fun e => hu e.symm)).trans (hW.block i hi (fun e => e))
  have hset : ∀ i, i ≠ b → (w1.setCell ⟨b, k * 10 + 4, none⟩ v').heap[i]? = w1.heap[i]? := fun i hi => Below.heap_setCell _ _ _ _ hi
  have hub : (lv k).ownBlock ≠ some b := fun e => hblkne (h.logs k hk) e (by decide) rfl
  have keep : ∀ {v : Value} {m : Nat} {xs : List Value} {e sz : Nat}, w.ownsRow 0 e sz v m xs → e ≠ 84 → (∀ g, v.ownBlock = some g → (lv k).ownBlock ≠ some g) → (w1.setCell ⟨b, k * 10 + 4, none⟩ v').ownsRow 0 e sz v m xs := by
    intro v m xs e sz ho he hd
    exact ownsRow_same ho fun g hg hl => by rw [hset g (hblkne ho hg he), hold g hl (hd g hg)]
  have other : ∀ {v : Value} {m : Nat} {xs : List Value} {e sz : Nat}, w.ownsRow 0 e sz v m xs → e ≠ 36 → ∀ g, v.ownBlock = some g → (lv k).ownBlock ≠ some g := by
    intro v m xs e sz ho he g hg hu
    obtain ⟨cu, hcu⟩ := ownsRow_block ho hg
    obtain ⟨cu', hcu'⟩ := ownsRow_block (h.logs k hk) hu
    exact ne_of_type hcu hcu' he rfl
  have newS : Ext S w gg := by
    rcases hat with e | e
    · exact Or.inl (h.logS k gg hk e)
    · exact Or.inr e
  refine ⟨?_, ?_⟩
  · exact { blk := ⟨_, heap_setCell_at _ _ _ _ _ _ _ ((hold b hb hub).trans hbl), hc.setLog k hk v' l⟩, inb := Or.inl h.inb
            logs := fun i hi => by
              by_cases hik : i = k
              · subst hik
                rw [upd_same, (e i).2.2.2.2.2, if_pos rfl, ← hn]
                exact ownsRow_same hown fun g hg _ => hset g (by rw [hv'] at hg; simp at hg; omega)
              · rw [upd_other _ _ _ _ hik, (e i).2.2.2.2.2, if_neg hik]
                exact keep (h.logs i hi) (by decide) fun g hg => h.logD i k g hi hk hik hg
            logS := fun i g hi hg => by
              by_cases hik : i = k
              · subst hik; rw [upd_same, hv'] at hg; simp at hg; subst hg; exact newS
              · rw [upd_other _ _ _ _ hik] at hg; exact Or.inl (h.logS i g hi hg)
            logD := fun i j g hi hj hij hg => by
              by_cases hik : i = k
              · subst hik
                rw [upd_same, hv'] at hg; simp at hg; subst hg
                rw [upd_other _ _ _ _ (fun e => hij e.symm)]
                rcases hat with e | e
                · exact h.logD i j gg hi hj hij e
                · intro e2; have := ownsRow_lt (h.logs j hj) e2; omega
              · rw [upd_other _ _ _ _ hik] at hg
                by_cases hjk : j = k
                · subst hjk
                  rw [upd_same, hv']
                  intro e2; simp at e2; subst e2
                  rcases hat with e | e
                  · exact h.logD i j gg hi hj hij hg e
                  · have := ownsRow_lt (h.logs i hi) hg; omega
                · rw [upd_other _ _ _ _ hjk]; exact h.logD i j g hi hj hij hg
            eps := keep h.eps (by decide) (other h.eps (by decide)), epS := fun g hg => Or.inl (h.epS g hg)
            way := keep h.way (by decide) (other h.way (by decide)), wayS := fun g hg => Or.inl (h.wayS g hg), mvs := h.mvs
            recs := fun x hx => keep (h.recs x hx) (by decide) fun g hg => h.recD x k g hx hk hg
            recS := fun x g hx hg => Or.inl (h.recS x g hx hg)
            recD := fun x i g hx hi hg => by
              by_cases hik : i = k
              · subst hik
                rw [upd_same, hv']
                intro e2; simp at e2; subst e2
                rcases hat with e | e
                · exact h.recD x i gg hx hi hg e
                · have := ownsRow_lt (h.recs x hx) hg; omega
              · rw [upd_other _ _ _ _ hik]; exact h.recD x i g hx hi hg }
  · have f1 : Fr S w w1 := (hW.mono (fun _ e => e.elim)).then (Fr.grown hgrow fun i hi => h.logS k i hk hi)
    exact f1.then (Fr.setCell _ _ h.inb _)

theorem writeTo_nodes (c : Clu) (k : Nat) (a : Int) : ∀ j, (writeTo c k a j).nodes = c.nodes ∧ (writeTo c k a j).epochs = c.epochs
  | 0 => ⟨rfl, rfl⟩
  | j + 1 => by
    have ih := writeTo_nodes c k a j
    unfold writeTo
    split
    · rw [(sendAppend_nodes _ _ _ _).1, (sendAppend_nodes _ _ _ _).2]; exact ih
    · exact ih
theorem writeTo_ok {c : Clu} (h : Ok c) (k : Nat) (a : Int) : ∀ j, Ok (writeTo c k a j)
  | 0 => h
  | j + 1 => by
    have ih := writeTo_ok h k a j
    unfold writeTo
    split
    · exact sendAppend_ok ih _ _ _
    · exact ih
theorem putLog_ok {c : Clu} (h : Ok c) (k : Nat) (l : List Rec) (hl : l.length ≤ 60) : Ok (putLog c k l) :=
  ⟨fun i hi => by rw [(putLog_at c k l i).2.2.2.2.2]; split; exact hl; exact h.log i hi, h.ways, h.eps⟩

set_option maxHeartbeats 3200000 in
set_option maxRecDepth 100000 in
theorem write_any (h : Rep w S b c lv ev uv mv) (hok : Ok c) (k : Nat) (hk : k < 5) (r : Rec) (hl60 : (c.nodes k).log.length < 60) :
    Calls Try.prog 35 #[.pointer (some ⟨b, 0, none⟩), .int .i64 k, .agg #[.int .i64 r.p, .int .i64 r.s, .int .i64 r.v]] w fun e w' =>
      e = .returned (.tuple #[]) ∧ (∃ lv' uv' mv', Rep w' (Ext S w) b (write c k r) lv' ev uv' mv') ∧ Fr S w w' := by
  have hl := h.cLog k hk
  have hb := h.lt
  have hfr := h.free (k * 10 + 4)
  have hown := h.logs k hk
  obtain ⟨ao, cap, hlv, hcap, _, hpos⟩ := ownsRow_shape hown
  rw [hlv] at hl hown
  have hW : Hid (w.ownsRow 0 36 3 (.slice ao (c.nodes k).log.length cap) (c.nodes k).log.length (recCells (c.nodes k).log)) := hown
  have hne : (Value.slice ao (c.nodes k).log.length cap).ownBlock ≠ some b := by
    intro e
    obtain ⟨cs, hbl, _⟩ := h.blk
    obtain ⟨cu, hcu⟩ := ownsRow_block hown e
    exact ne_of_type hcu hbl (by decide) rfl
  have H : Hid (Rep w S b c lv ev uv mv) := h
  have HO : Hid (Ok c) := hok
  have HL : Hid (lv k = .slice ao (c.nodes k).log.length cap) := hlv
  clear h hok hlv hown hpos
  obtain ⟨i0, hi0, hz0, hz1, hz2⟩ := info_parts infoRec
  have hk0 : (0 : Int) ≤ (k : Int) := by omega
  have hk1 : (k : Int) < 5 := by omega
  have hnews := recRow_one r
  go_enter Try.func35, Try.ntmps35
  go_wp2_with fail
  go_region_law ((refine step_append_lies _ (by rfl) _ _ _ (by rfl) 0 36 i0 _ 3 24 Try.underlying53 hi0 hz0 hz1 hz2 rfl (by omega) (.slice ao (c.nodes k).log.length cap) (c.nodes k).log.length (recCells (c.nodes k).log) (by rfl) (((hW.out.alloc _).alloc _).drew) ⟨w.heap.size + 1, 0, none⟩ 1 1 (recRow r) (by rfl) (by rfl) (World.news_of_block (cs := (recRow r).toArray) (t := 36) (fr := (0, 0)) (heap_alloc2_new w _ _)) hnews (by omega) (by unfold maxLen; omega) (by omega) (by omega) (w.heap.size + 2) (by simp) ?_; intro gg cap' w1 hown1 hgrow hat hlt2; have hc51 : w1.cell? ⟨b, k * 10 + 4, none⟩ = some (.slice ao (c.nodes k).log.length cap) := (by rw [hgrow.cell_far _ (by simp; omega) (Ne.symm hne)]; simp [World.cell?_alloc_some, hl]); have hf51 : w1.frozen? ⟨b, k * 10 + 4, none⟩ = false := (by rw [hgrow.frozen_far _ (by simp; omega) (Ne.symm hne)]; simp [frozen?_alloc_cells, hfr])))
  all_goals
    have R := H.out.logged (W := ((w.alloc _).alloc _).drew) (((Fr.alloc _ _ _).then (Fr.alloc _ _ _)).then (Fr.drew _ _)) k hk ((c.nodes k).log ++ [r]) (.slice (some ⟨gg, 0, none⟩) ((c.nodes k).log.length + 1) cap') ((c.nodes k).log.length + 1) gg (by simp) rfl
      (by rw [recCells_append]; exact hown1) (by rw [HL.out]; exact hgrow) (by rw [HL.out]; exact orR hat fun e => by omega)
    have HO1 : Hid (Ok (putLog c k ((c.nodes k).log ++ [r]))) := putLog_ok HO.out k _ (by simp; omega)
    clear hown1 hgrow hat hlt2 hc51 hf51 hnews hW hl hfr hne
    generalize w1.setCell _ _ = W2 at R ⊢
    generalize hc1 : putLog c k ((c.nodes k).log ++ [r]) = c1 at R HO1
    generalize upd lv k _ = lv1 at R
    have HC : Hid (putLog c k ((c.nodes k).log ++ [r]) = c1) := hc1
    clear hc1
    have HR1 : Hid (Rep W2 (Ext S w) b c1 lv1 ev uv mv) := R.1
    have HR2 : Hid (Fr S w W2) := R.2
    clear R
    have HFin : Hid (write c k r = writeTo c1 k ((c.nodes k).log.length) 5) := by show write c k r = _; rw [write, HC.out]
    generalize (c.nodes k).log.length = n at *
    go_wp2
    go_loopw [32] (fun i wr => ∃ j : Nat, j ≤ 5 ∧ i = .int .i64 j ∧ (∃ uv' mv', Rep wr (Ext S w) b (writeTo c1 k n j) lv1 ev uv' mv') ∧ Fr S w wr) (fun i _ => 5 - (intOf i).toNat)
    case atStart => exact ⟨0, Nat.zero_le _, rfl, ⟨_, _, HR1.out⟩, HR2.out⟩
    case round =>
      obtain ⟨j, hj5, rfl, ⟨uv1, mv1, hR⟩, hFr⟩ := hrel
      have HR : Hid (Rep wr (Ext S w) b (writeTo c1 k n j) lv1 ev uv1 mv1) := hR
      have HFr : Hid (Fr S w wr) := hFr
      have HO2 : Hid (Ok (writeTo c1 k n j)) := writeTo_ok HO1.out k n j
      clear hR hFr
      by_cases hj : j < 5
      · cases hoth : isOther (writeTo c1 k n j) k j
        · have HS : Hid (writeTo c1 k n (j + 1) = writeTo c1 k n j) := by show writeTo c1 k n (j + 1) = _; rw [writeTo, hoth]; rfl
          go_wp2_with (first | (go_at_call 53; refine (isOther_any HR.out HO2.out k j hk hj).mono ?_; rintro e w' ⟨rfl, rfl⟩))
          go_roundw
          case rel => exact ⟨j + 1, by omega, by go_num, ⟨uv1, mv1, by rw [HS.out]; exact HR.out⟩, HFr.out⟩
          case measure => simp [intOf]; omega
        · have HS : Hid (writeTo c1 k n (j + 1) = sendAppend (writeTo c1 k n j) k j n) := by show writeTo c1 k n (j + 1) = _; rw [writeTo, hoth]; rfl
          go_wp2_with (first | (go_at_call 53; refine (isOther_any HR.out HO2.out k j hk hj).mono ?_; rintro e w' ⟨rfl, rfl⟩))
          refine (sendAppend_any HR.out HO2.out k j hk _).mono ?_
          rintro e w2 ⟨rfl, ⟨uv2, mv2, hR2⟩, hFr2⟩
          have HR2 : Hid (Rep w2 (Ext (Ext S w) w') b (sendAppend (writeTo c1 k n j) k j n) lv1 ev uv2 mv2) := hR2
          have HFr2 : Hid (Fr (Ext S w) w' w2) := hFr2
          clear hR2 hFr2
          go_wp2
          go_roundw
          case rel => exact ⟨j + 1, by omega, by go_num, ⟨uv2, mv2, by rw [HS.out]; exact HR2.out.mono fun i _ e => Ext.sub HFr.out.size i e⟩, HFr.out.trans HFr2.out⟩
          case measure => simp [intOf]; omega
      · have : j = 5 := by omega
        subst this
        go_wp2
        exact bodyPost_end (results_none rfl _ _ _) rfl ⟨rfl, ⟨_, _, _, by rw [HFin.out]; exact HR.out⟩, HFr.out⟩
end
end Go.Proofs.Ythpfgmdffendoaa
