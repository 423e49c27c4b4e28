/- My own text. Walks: New. -/
import Derived.Test.YthpfgmdffendoaaMsgs
namespace Go.Proofs.Ythpfgmdffendoaa
set_option linter.unusedVariables false
set_option linter.unusedSimpArgs false
open Go.RowKit
def newNd (j i : Nat) : Nd := { up := decide (i < j), follows := if i < j ∧ i < 3 then 1 else 0, given := if i < j ∧ i < 3 then 1 else 0, role := 0, log := [], known := fun _ => 0 }
def newC : Clu := { nodes := fun i => { newNd 5 i with role := if i = 0 then 3 else 0 }, epochs := [fun i => decide (i < 3)], ways := [] }
def nilS : Value := .slice none 0 0
theorem infoEp : (Try.prog.info? 98).map (fun i => (i.zero, i.size, i.bytes)) = some (some (.agg #[.bool false, .bool false, .bool false, .bool false, .bool false]), 5, 5) := by kernel_rfl
theorem Cells.set {cs : Array Value} {n n' : Nat → Nd} {lv : Nat → Value} {ev uv : Value} (h : Cells cs n lv ev uv) (o : Nat) (v : Value) (ho : o < 50)
    (h1 : ∀ i, i < 5 → (if o = i * 10 then v else .bool (n i).up) = .bool (n' i).up)
    (h2 : ∀ i, i < 5 → (if o = i * 10 + 1 then v else .int .i64 (n i).follows) = .int .i64 (n' i).follows)
    (h3 : ∀ i, i < 5 → (if o = i * 10 + 2 then v else .int .i64 (n i).given) = .int .i64 (n' i).given)
    (h4 : ∀ i, i < 5 → (if o = i * 10 + 3 then v else .int .i64 (n i).role) = .int .i64 (n' i).role)
    (h5 : ∀ i, i < 5 → o ≠ i * 10 + 4)
    (h6 : ∀ i j, i < 5 → j < 5 → (if o = i * 10 + 5 + j then v else .int .i64 ((n i).known j)) = .int .i64 ((n' i).known j)) : Cells (cs.setIfInBounds o v) n' lv ev uv := by
  have hs := h.size
  have key : ∀ j u u', j < 52 → cs[j]? = some u → (if o = j then v else u) = u' → (cs.setIfInBounds o v)[j]? = some u' := by
    intro j u u' hj hu he
    rw [Array.getElem?_setIfInBounds]
    by_cases e : o = j
    · rw [if_pos e] at he ⊢; rw [if_pos (by omega), he]
    · rw [if_neg e] at he ⊢; rw [hu, he]
  exact { size := by simp [hs], up := fun i hi => key _ _ _ (by omega) (h.up i hi) (h1 i hi), fol := fun i hi => key _ _ _ (by omega) (h.fol i hi) (h2 i hi)
          giv := fun i hi => key _ _ _ (by omega) (h.giv i hi) (h3 i hi), rol := fun i hi => key _ _ _ (by omega) (h.rol i hi) (h4 i hi)
          log := fun i hi => key _ _ _ (by omega) (h.log i hi) (if_neg (h5 i hi)), kno := fun i j hi hj => key _ _ _ (by omega) (h.kno i j hi hj) (h6 i j hi hj)
          eps := key _ _ _ (by omega) h.eps (if_neg (by omega)), way := key _ _ _ (by omega) h.way (if_neg (by omega)) }

theorem Cells.setEps {cs : Array Value} {n : Nat → Nd} {lv : Nat → Value} {ev uv : Value} (h : Cells cs n lv ev uv) (ev' : Value) : Cells (cs.setIfInBounds 50 ev') n lv ev' uv := by
  have hs := h.size
  constructor
  · simp [hs]
  · intro k hk; rw [Array.getElem?_setIfInBounds_ne (by omega)]; exact h.up k hk
  · intro k hk; rw [Array.getElem?_setIfInBounds_ne (by omega)]; exact h.fol k hk
  · intro k hk; rw [Array.getElem?_setIfInBounds_ne (by omega)]; exact h.giv k hk
  · intro k hk; rw [Array.getElem?_setIfInBounds_ne (by omega)]; exact h.rol k hk
  · intro k hk; rw [Array.getElem?_setIfInBounds_ne (by omega)]; exact h.log k hk
  · intro k j hk hj; rw [Array.getElem?_setIfInBounds_ne (by omega)]; exact h.kno k j hk hj
  · rw [Array.getElem?_setIfInBounds_self, if_pos (by omega)]
  · rw [Array.getElem?_setIfInBounds_ne (by omega)]; exact h.way
/-- New's loop, behind j rounds. -/
def New0 (N gg cap : Nat) (w wr : World) (j : Nat) : Prop :=
  (∃ cs, wr.heap[N]? = some (.cells cs 84 (0, 0)) ∧ Cells cs (newNd j) (fun _ => nilS) (.slice (some ⟨gg, 0, none⟩) 1 cap) nilS) ∧
  wr.heap[N + 1]? = some (.cells #[.bool true, .bool true, .bool true, .bool false, .bool false] 98 (0, 0)) ∧
  wr.ownsRow 0 98 5 (.slice (some ⟨gg, 0, none⟩) 1 cap) 1 [.bool true, .bool true, .bool true, .bool false, .bool false] ∧ Below N w wr
theorem New0.put {N gg cap : Nat} {w wr : World} {n' : Nat → Nd} {cs : Array Value} (hgg : gg ≠ N) (hb : wr.heap[N]? = some (.cells cs 84 (0, 0))) (he : wr.heap[N + 1]? = some (.cells #[.bool true, .bool true, .bool true, .bool false, .bool false] 98 (0, 0)))
    (ho : wr.ownsRow 0 98 5 (.slice (some ⟨gg, 0, none⟩) 1 cap) 1 [.bool true, .bool true, .bool true, .bool false, .bool false]) (hw : Below N w wr) (o : Nat) (v : Value)
    (hc : Cells (cs.setIfInBounds o v) n' (fun _ => nilS) (.slice (some ⟨gg, 0, none⟩) 1 cap) nilS) :
    (wr.setCell ⟨N, o, none⟩ v).heap[N]? = some (.cells (cs.setIfInBounds o v) 84 (0, 0)) ∧
    (wr.setCell ⟨N, o, none⟩ v).heap[N + 1]? = some (.cells #[.bool true, .bool true, .bool true, .bool false, .bool false] 98 (0, 0)) ∧
    (wr.setCell ⟨N, o, none⟩ v).ownsRow 0 98 5 (.slice (some ⟨gg, 0, none⟩) 1 cap) 1 [.bool true, .bool true, .bool true, .bool false, .bool false] ∧ Below N w (wr.setCell ⟨N, o, none⟩ v) :=
  ⟨heap_setCell_at _ _ _ _ _ _ _ hb, by rw [Below.heap_setCell _ _ _ _ (by simp)]; exact he,
    ownsRow_same ho fun g' hg' _ => Below.heap_setCell _ _ _ _ (by simp [Value.ownBlock] at hg'; subst hg'; exact hgg), hw.setCell (Nat.le_refl _) _⟩
theorem New0.step1 {N gg cap : Nat} {w wr : World} {j : Nat} (h : New0 N gg cap w wr j) (hgg : gg ≠ N) (hj : j < 3) :
    New0 N gg cap w (((wr.setCell ⟨N, j * 10, none⟩ (.bool true)).setCell ⟨N, j * 10 + 1, none⟩ (.int .i64 1)).setCell ⟨N, j * 10 + 2, none⟩ (.int .i64 1)) (j + 1) := by
  obtain ⟨⟨cs, hb, hc⟩, he, ho, hw⟩ := h
  have n1 : Cells (cs.setIfInBounds (j * 10) (.bool true)) (fun i => { newNd j i with up := decide (i < j + 1) }) (fun _ => nilS) (.slice (some ⟨gg, 0, none⟩) 1 cap) nilS := by
    refine hc.set _ _ (by omega) ?_ ?_ ?_ ?_ ?_ ?_
    · intro i hi
      by_cases e : j = i
      · subst e; simp
      · rw [if_neg (by omega)]; simp [newNd]; omega
    all_goals (intro i; intros; first | omega | (rw [if_neg (by omega)]))
  have n2 : Cells ((cs.setIfInBounds (j * 10) (.bool true)).setIfInBounds (j * 10 + 1) (.int .i64 1)) (fun i => { newNd j i with up := decide (i < j + 1), follows := if i < j + 1 ∧ i < 3 then 1 else 0 }) (fun _ => nilS) (.slice (some ⟨gg, 0, none⟩) 1 cap) nilS := by
    refine n1.set _ _ (by omega) ?_ ?_ ?_ ?_ ?_ ?_
    rotate_left 1
    · intro i hi
      by_cases e : j = i
      · subst e; simp [hj]
      · have : (i < j + 1 ∧ i < 3) ↔ (i < j ∧ i < 3) := by omega
        rw [if_neg (by omega)]; simp only [newNd, this]
    all_goals (intro i; intros; first | omega | (rw [if_neg (by omega)]))
  have n3 : Cells (((cs.setIfInBounds (j * 10) (.bool true)).setIfInBounds (j * 10 + 1) (.int .i64 1)).setIfInBounds (j * 10 + 2) (.int .i64 1)) (newNd (j + 1)) (fun _ => nilS) (.slice (some ⟨gg, 0, none⟩) 1 cap) nilS := by
    refine n2.set _ _ (by omega) ?_ ?_ ?_ ?_ ?_ ?_
    rotate_left 2
    · intro i hi
      by_cases e : j = i
      · subst e; simp [newNd, hj]
      · have : (i < j + 1 ∧ i < 3) ↔ (i < j ∧ i < 3) := by omega
        rw [if_neg (by omega)]; simp only [newNd, this]
    all_goals (intro i; intros; first | omega | (rw [if_neg (by omega)]; done) | (rw [if_neg (by omega)]; rfl))
  obtain ⟨b1, e1, o1, w1⟩ := New0.put hgg hb he ho hw _ _ n1
  obtain ⟨b2, e2, o2, w2⟩ := New0.put hgg b1 e1 o1 w1 _ _ n2
  obtain ⟨b3, e3, o3, w3⟩ := New0.put hgg b2 e2 o2 w2 _ _ n3
  exact ⟨⟨_, b3, n3⟩, e3, o3, w3⟩
theorem New0.step2 {N gg cap : Nat} {w wr : World} {j : Nat} (h : New0 N gg cap w wr j) (hgg : gg ≠ N) (hj5 : j < 5) (hj : ¬ j < 3) :
    New0 N gg cap w (wr.setCell ⟨N, j * 10, none⟩ (.bool true)) (j + 1) := by
  obtain ⟨⟨cs, hb, hc⟩, he, ho, hw⟩ := h
  have n1 : Cells (cs.setIfInBounds (j * 10) (.bool true)) (newNd (j + 1)) (fun _ => nilS) (.slice (some ⟨gg, 0, none⟩) 1 cap) nilS := by
    refine hc.set _ _ (by omega) ?_ ?_ ?_ ?_ ?_ ?_
    · intro i hi
      by_cases e : j = i
      · subst e; simp [newNd]
      · rw [if_neg (by omega)]; simp [newNd]; omega
    · intro i hi
      have : (i < j + 1 ∧ i < 3) ↔ (i < j ∧ i < 3) := by omega
      rw [if_neg (by omega)]; simp only [newNd, this]
    · intro i hi
      have : (i < j + 1 ∧ i < 3) ↔ (i < j ∧ i < 3) := by omega
      rw [if_neg (by omega)]; simp only [newNd, this]
    all_goals (intro i; intros; first | omega | (rw [if_neg (by omega)]; done) | (rw [if_neg (by omega)]; rfl))
  obtain ⟨b1, e1, o1, w1⟩ := New0.put hgg hb he ho hw _ _ n1
  exact ⟨⟨_, b1, n1⟩, e1, o1, w1⟩
theorem New0.done {N gg cap : Nat} {w wr : World} (h : New0 N gg cap w wr 5) (hgg : gg ≠ N) (hgN : N ≤ gg) :
    (∃ ev, Rep (wr.setCell ⟨N, 3, none⟩ (.int .i64 3)) (fun k => N ≤ k) N newC (fun _ => nilS) ev nilS []) ∧ Below N w (wr.setCell ⟨N, 3, none⟩ (.int .i64 3)) := by
  obtain ⟨⟨cs, hb, hc⟩, he, ho, hw⟩ := h
  have n1 : Cells (cs.setIfInBounds 3 (.int .i64 3)) newC.nodes (fun _ => nilS) (.slice (some ⟨gg, 0, none⟩) 1 cap) nilS := by
    refine hc.set _ _ (by omega) ?_ ?_ ?_ ?_ ?_ ?_
    rotate_left 3
    · intro i hi
      by_cases e : i = 0
      · subst e; simp [newC]
      · rw [if_neg (by omega)]; simp [newC, e, newNd]
    all_goals (intro i; intros; first | omega | (rw [if_neg (by omega)]; done) | (rw [if_neg (by omega)]; rfl))
  obtain ⟨b1, e1, o1, w1⟩ := New0.put hgg hb he ho hw _ _ n1
  refine ⟨⟨.slice (some ⟨gg, 0, none⟩) 1 cap, ?_⟩, w1⟩
  exact { blk := ⟨_, b1, n1⟩, inb := Nat.le_refl _, logs := fun k hk => World.ownsRow_nil _ _ _ _, logS := fun k g hk hg => by simp [nilS, Value.ownBlock] at hg
          logD := fun k j g _ _ _ hg => by simp [nilS, Value.ownBlock] at hg, eps := o1, epS := fun g hg => by simp [Value.ownBlock] at hg; subst hg; exact hgN
          way := World.ownsRow_nil _ _ _ _, wayS := fun g hg => by simp [nilS, Value.ownBlock] at hg, mvs := rfl, recs := fun x hx => by cases hx
          recS := fun x g hx => (by cases hx), recD := fun x k g hx => (by cases hx) }
theorem wp_gen {P : Program} {c : Code} {Q : Exit → Act → World → Prop} {a : Act} {w : World} (F : World → Prop) (hF : F w) (h : ∀ W, F W → c.wp P Q a W) : c.wp P Q a w := h w hF

set_option maxHeartbeats 3200000 in
set_option maxRecDepth 100000 in
theorem new_any (w : World) :
    Calls Try.prog 25 #[] w fun e w' => e = .returned (.pointer (some ⟨w.heap.size, 0, none⟩)) ∧ (∃ ev, Rep w' (fun k => w.heap.size ≤ k) w.heap.size newC (fun _ => nilS) ev nilS []) ∧ Below w.heap.size w w' := by
  obtain ⟨i0, hi0, hz0, hz1, hz2⟩ := info_parts infoEp
  go_enter Try.func25, Try.ntmps25
  go_wp2_with fail
  refine wp_gen (fun W => W.heap.size = w.heap.size + 2 ∧ (∃ cs, W.heap[w.heap.size]? = some (.cells cs 84 (0, 0)) ∧ Cells cs (newNd 0) (fun _ => nilS) nilS nilS) ∧
      W.heap[w.heap.size + 1]? = some (.cells #[.bool true, .bool true, .bool true, .bool false, .bool false] 98 (0, 0)) ∧ Below w.heap.size w W) ?_ ?_
  · refine ⟨by simp, ⟨_, heap_alloc2_old w _ _, ?_⟩, heap_alloc2_new w _ _, ((Below.refl _ _).alloc (Nat.le_refl _) _).alloc (by simp) _⟩
    constructor
    · rfl
    all_goals first | rfl | (intro k hk; match k, hk with | 0, _ => rfl | 1, _ => rfl | 2, _ => rfl | 3, _ => rfl | 4, _ => rfl) | (intro k j hk hj; match k, hk, j, hj with | 0, _, 0, _ | 0, _, 1, _ | 0, _, 2, _ | 0, _, 3, _ | 0, _, 4, _ | 1, _, 0, _ | 1, _, 1, _ | 1, _, 2, _ | 1, _, 3, _ | 1, _, 4, _ | 2, _, 0, _ | 2, _, 1, _ | 2, _, 2, _ | 2, _, 3, _ | 2, _, 4, _ | 3, _, 0, _ | 3, _, 1, _ | 3, _, 2, _ | 3, _, 3, _ | 3, _, 4, _ | 4, _, 0, _ | 4, _, 1, _ | 4, _, 2, _ | 4, _, 3, _ | 4, _, 4, _ => rfl)
  rintro W ⟨hWs, ⟨cs, hWb, hWc⟩, hWe, hWB⟩
  have HWb : Hid (W.heap[w.heap.size]? = some (.cells cs 84 (0, 0))) := hWb
  have HWc : Hid (Cells cs (newNd 0) (fun _ => nilS) nilS nilS) := hWc
  have HWe : Hid (W.heap[w.heap.size + 1]? = some (.cells #[.bool true, .bool true, .bool true, .bool false, .bool false] 98 (0, 0))) := hWe
  have HWB : Hid (Below w.heap.size w W) := hWB
  have c50 : W.cell? ⟨w.heap.size, 50, none⟩ = some (.slice none 0 0) := (cell_of_row _ _ _ _ _ _ hWb).trans hWc.eps
  have f50 : W.frozen? ⟨w.heap.size, 50, none⟩ = false := by simp [World.frozen?, hWb]
  have ce : ∀ j, W.cell? ⟨w.heap.size + 1, j, none⟩ = (#[.bool true, .bool true, .bool true, .bool false, .bool false] : Array Value)[j]? := fun j => cell_of_row _ _ _ _ _ _ hWe
  have e0 := ce 0; have e1 := ce 1; have e2 := ce 2; have e3 := ce 3; have e4 := ce 4
  simp at e0 e1 e2 e3 e4
  clear ce hWb hWc hWe hWB
  have HWs : Hid (W.heap.size = w.heap.size + 2) := hWs
  have hlt0 : w.heap.size < W.heap.size := by omega
  have hlt1 : w.heap.size + 1 < W.heap.size := by omega
  clear hWs
  have hnews : ∀ u ∈ ([.bool true, .bool true, .bool true, .bool false, .bool false] : List Value), u.oneCell' = true := by
    intro u hu
    simp only [List.mem_cons, List.not_mem_nil, or_false] at hu
    rcases hu with rfl | rfl | rfl | rfl | rfl <;> rfl
  go_region_law ((refine step_append_lies _ (by rfl) _ _ _ (by rfl) 0 98 i0 _ 5 5 Try.underlying81 hi0 hz0 hz1 hz2 rfl (by omega) (.slice none 0 0) 0 [] (by rfl) (World.ownsRow_nil _ _ _ _) ⟨W.heap.size, 0, none⟩ 1 1 [.bool true, .bool true, .bool true, .bool false, .bool false] (by rfl) (by rfl) (World.news_of_block (cs := #[.bool true, .bool true, .bool true, .bool false, .bool false]) (t := 98) (fr := (0, 0)) (heap_alloc_new W _)) hnews (by omega) (by unfold maxLen; omega) (by omega) (by omega) (W.heap.size + 1) (by simp) ?_; intro gg cap' w1 hown1 hgrow hat hlt2; have hc51 : w1.cell? ⟨w.heap.size, 50, none⟩ = some (.slice none 0 0) := (by rw [hgrow.cell_far _ (by simp; omega) (by simp [Value.ownBlock])]; simp [World.cell?_alloc_some, c50]); have hf51 : w1.frozen? ⟨w.heap.size, 50, none⟩ = false := (by rw [hgrow.frozen_far _ (by simp; omega) (by simp [Value.ownBlock])]; simp [frozen?_alloc_cells, f50])))
  all_goals
    have hgg : gg = W.heap.size + 1 := by rcases hat with e | e; (simp [Value.ownBlock] at e); exact e
    have hg0 : gg ≠ w.heap.size := by omega
    have hgN : w.heap.size ≤ gg := by omega
    have A1 : w1.heap[w.heap.size]? = some (.cells cs 84 (0, 0)) := by
      rw [hgrow.block _ (by simp; omega) (by simp [Value.ownBlock])]
      show (W.alloc _).heap[_]? = _
      rw [Below.heap_alloc _ _ _ hlt0]; exact HWb.out
    have A2 : w1.heap[w.heap.size + 1]? = some (.cells #[.bool true, .bool true, .bool true, .bool false, .bool false] 98 (0, 0)) := by
      rw [hgrow.block _ (by simp; omega) (by simp [Value.ownBlock])]
      show (W.alloc _).heap[_]? = _
      rw [Below.heap_alloc _ _ _ hlt1]; exact HWe.out
    have A3 : Below w.heap.size w w1 := HWB.out.trans ((((Below.refl w.heap.size W).alloc (by omega) _).drew).grown hgrow (by simp; omega) (by simp [Value.ownBlock]))
    have R : New0 w.heap.size gg cap' w (w1.setCell ⟨w.heap.size, 50, none⟩ (.slice (some ⟨gg, 0, none⟩) (0 + 1) cap')) 0 := by
      refine ⟨⟨_, heap_setCell_at _ _ _ _ _ _ _ A1, HWc.out.setEps _⟩, ?_, ?_, A3.setCell (Nat.le_refl _) _⟩
      · rw [Below.heap_setCell _ _ _ _ (by simp)]; exact A2
      · exact ownsRow_same hown1 fun g' hg' _ => Below.heap_setCell _ _ _ _ (by simp [Value.ownBlock] at hg'; subst hg'; exact hg0)
    clear A1 A2 A3 hown1 hgrow hat hc51 hf51 hlt2 hnews c50 f50 e0 e1 e2 e3 e4 hlt0 hlt1 HWb HWc HWe HWB
    generalize w1.setCell _ _ = W2 at R ⊢
    have HR : Hid (New0 w.heap.size gg cap' w W2 0) := R
    clear R hgg HWs
    go_wp2
    go_loopw [18] (fun t wr => ∃ j : Nat, j ≤ 5 ∧ t = .int .i64 j ∧ New0 w.heap.size gg cap' w wr j) (fun t _ => 5 - (intOf t).toNat)
    case atStart => exact ⟨0, Nat.zero_le _, rfl, HR.out⟩
    case round =>
      obtain ⟨j, hj5, rfl, hR⟩ := hrel
      clear HR
      have HR : Hid (New0 w.heap.size gg cap' w wr j) := hR
      obtain ⟨⟨cs1, hb1, hc1⟩, he1, hown1, hbel⟩ := hR
      by_cases hj : j < 5
      · have fz : ∀ o, wr.frozen? ⟨w.heap.size, o, none⟩ = false := fun o => by simp [World.frozen?, hb1]
        have f0 := fz (j * 10); have f1 := fz (j * 10 + 1); have f2 := fz (j * 10 + 2)
        have c0 : wr.cell? ⟨w.heap.size, j * 10, none⟩ = _ := (cell_of_row _ _ _ _ _ _ hb1).trans (hc1.up j hj)
        have c1 : wr.cell? ⟨w.heap.size, j * 10 + 1, none⟩ = _ := (cell_of_row _ _ _ _ _ _ hb1).trans (hc1.fol j hj)
        have c2 : wr.cell? ⟨w.heap.size, j * 10 + 2, none⟩ = _ := (cell_of_row _ _ _ _ _ _ hb1).trans (hc1.giv j hj)
        have cm : wr.cell? ⟨w.heap.size + 1, j, none⟩ = some (.bool (decide (j < 3))) := by
          rw [cell_of_row _ _ _ _ _ _ he1]
          match j, hj with
          | 0, _ => rfl
          | 1, _ => rfl
          | 2, _ => rfl
          | 3, _ => rfl
          | 4, _ => rfl
        clear hb1 hc1 he1 hown1 hbel fz
        by_cases hj3 : j < 3
        · have HS : Hid (New0 w.heap.size gg cap' w (((wr.setCell ⟨w.heap.size, j * 10, none⟩ (.bool true)).setCell ⟨w.heap.size, j * 10 + 1, none⟩ (.int .i64 1)).setCell ⟨w.heap.size, j * 10 + 2, none⟩ (.int .i64 1)) (j + 1)) := New0.step1 HR.out hg0 hj3
          rw [decide_eq_true hj3] at cm
          go_wp2
          go_roundw
          case rel => exact ⟨j + 1, by omega, by go_num, HS.out⟩
          case measure => simp [intOf]; omega
        · have HS : Hid (New0 w.heap.size gg cap' w (wr.setCell ⟨w.heap.size, j * 10, none⟩ (.bool true)) (j + 1)) := New0.step2 HR.out hg0 hj hj3
          rw [decide_eq_false hj3] at cm
          go_wp2
          go_roundw
          case rel => exact ⟨j + 1, by omega, by go_num, HS.out⟩
          case measure => simp [intOf]; omega
      · have : j = 5 := by omega
        subst this
        have f0 : wr.frozen? ⟨w.heap.size, 3, none⟩ = false := by simp [World.frozen?, hb1]
        have c0 : wr.cell? ⟨w.heap.size, 3, none⟩ = _ := (cell_of_row _ _ _ _ _ _ hb1).trans (hc1.rol 0 (by omega))
        clear hb1 hc1 he1 hown1 hbel
        go_wp2
        go_ret
        exact ⟨rfl, New0.done HR.out hg0 hgN⟩
end Go.Proofs.Ythpfgmdffendoaa
