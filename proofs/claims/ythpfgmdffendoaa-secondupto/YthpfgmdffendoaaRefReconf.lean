/- My own text. Walks of package ledgerref: Reconfigure. -/
import Derived.Test.YthpfgmdffendoaaRefCalls
namespace Go.Proofs.Ythpfgmdffendoaa
set_option linter.unusedVariables false
set_option linter.unusedSimpArgs false
open Go.RowKit
theorem infoEra : (Try.prog.info? 107).map (fun i => (i.zero, i.size, i.bytes)) = some (some (.agg #[.int .i64 0, .int .i64 0, .int .i64 0]), 3, 24) := by kernel_rfl
section
variable {w : World} {S : Nat → Prop} {b : Nat} {d : Wd} {ev uv : Value}
/-- The list of epochs is another one now. -/
theorem RRep.newEras {w1 : World} (h : RRep w S b d ev uv) {W : World} (hW : Fr No w W) (v' : Value) (eras' : List Era) (n gg : Nat) (hn : n = eras'.length) (hv' : v'.ownBlock = some gg)
    (hown : w1.ownsRow 0 107 3 v' n (eraCells eras')) (hgrow : W.grownBy w1 ev.ownBlock) (hat : ev.ownBlock = some gg ∨ w.heap.size ≤ gg) :
    RRep (w1.setCell ⟨b, 75, none⟩ v') (Ext S w) b { d with eras := eras' } v' uv ∧ Fr S w (w1.setCell ⟨b, 75, none⟩ v') := by
  obtain ⟨cs, hbl, hc⟩ := h.blk
  have hb := h.lt
  have hblkne : ∀ {g : Nat} {v : Value} {k : Nat} {xs : List Value} {e sz : Nat}, w.ownsRow 0 e sz v k xs → v.ownBlock = some g → e ≠ 105 → g ≠ b := by
    intro g v k xs e sz ho hg he
    obtain ⟨cu, hcu⟩ := ownsRow_block ho hg
    exact ne_of_type hcu hbl he
  have hgb : gg ≠ b := by
    rcases hat with e | e
    · exact hblkne h.eras e (by decide)
    · omega
  have hold : ∀ k, k < w.heap.size → ev.ownBlock ≠ some k → w1.heap[k]? = w.heap[k]? := fun k hk hu =>
    (hgrow.block k (Nat.lt_of_lt_of_le hk hW.size) (fun e => hu e.symm)).trans (hW.block k hk (fun e => e))
  have hset : ∀ k, k ≠ b → (w1.setCell ⟨b, 75, none⟩ v').heap[k]? = w1.heap[k]? := fun k hk => Below.heap_setCell _ _ _ _ hk
  have hub : ev.ownBlock ≠ some b := fun e => hblkne h.eras e (by decide) rfl
  refine ⟨?_, ?_⟩
  · exact { blk := ⟨_, heap_setCell_at _ _ _ _ _ _ _ ((hold b hb hub).trans hbl), by
              refine hc.set 75 v' (by omega) ?_ ?_ ?_ ?_ ?_ ?_ ?_ ?_ ?_ ?_
              all_goals first | (intro i j hi hj; rw [if_neg (by omega)]) | (intro i hi; rw [if_neg (by omega)]) | rfl⟩
            inb := Or.inl h.inb
            way := by
              refine ownsRow_same h.way fun g hg hl => ?_
              have h1 : g ≠ b := hblkne h.way hg (by decide)
              obtain ⟨cu, hcu⟩ := ownsRow_block h.way hg
              rw [hset g h1, hold g hl]
              intro e
              obtain ⟨cu', hcu'⟩ := ownsRow_block h.eras e
              exact ne_of_type hcu hcu' (by decide) rfl
            wayS := fun g hg => Or.inl (h.wayS g hg)
            eras := by
              rw [← hn]
              exact ownsRow_same hown fun g hg _ => hset g (by rw [hv'] at hg; simp at hg; omega)
            eraS := fun g hg => by
              rw [hv'] at hg; simp at hg; subst hg
              rcases hat with e | e
              · exact Or.inl (h.eraS _ e)
              · exact Or.inr e }
  · have f1 : Fr S w w1 := (hW.mono (fun _ e => e.elim)).then (Fr.grown hgrow fun k hk => h.eraS k hk)
    exact f1.then (Fr.setCell _ _ h.inb _)

set_option maxHeartbeats 800000 in
theorem rreconf_nil (m l : Int) (w : World) :
    Calls Try.prog 73 #[.pointer none, .int .i64 m, .int .i64 l] w fun e w' => e = .returned (.int .i64 1) ∧ w' = w := by
  go_enter Try.func73, Try.ntmps73
  go_wp2
  go_ret
  exact ⟨rfl, rfl⟩

set_option maxHeartbeats 1600000 in
set_option maxRecDepth 100000 in
theorem rreconf_bad (h : RRep w S b d ev uv) (m l : Int) (hbad : rBad m l = true) :
    Calls Try.prog 73 #[.pointer (some ⟨b, 0, none⟩), .int .i64 m, .int .i64 l] w fun e w' => e = .returned (.int .i64 10) ∧ w' = w := by
  have key : m < 1 ∨ (1 ≤ m ∧ 32 ≤ m) ∨ (1 ≤ m ∧ m < 32 ∧ l < 0) ∨ (1 ≤ m ∧ m < 32 ∧ 0 ≤ l ∧ 5 ≤ l) := by simp [rBad] at hbad; omega
  clear h hbad
  rcases key with q1 | ⟨q1, q2⟩ | ⟨q1, q2, q3⟩ | ⟨q1, q2, q3, q4⟩
  all_goals
    go_enter Try.func73, Try.ntmps73
    go_wp2
    go_ret
    exact ⟨rfl, rfl⟩
theorem rBad_no {m l : Int} (h : rBad m l = false) : 1 ≤ m ∧ m < 32 ∧ 0 ≤ l ∧ l < 5 := by simp [rBad] at h; omega
def shrTo (m : Int) : Nat → Int
  | 0 => m
  | 1 => m / 2
  | 2 => m / 4
  | 3 => m / 8
  | _ => m / 16
theorem shrTo_eq (m : Int) (k : Nat) (hk : k < 5) : m / 2 ^ k = shrTo m k := by
  match k, hk with
  | 0, _ => simp [shrTo]
  | 1, _ => simp [shrTo]
  | 2, _ => simp [shrTo]
  | 3, _ => simp [shrTo]
  | 4, _ => simp [shrTo]
theorem shrTo_bounds (m : Int) (h1 : 1 ≤ m) (h2 : m < 32) (k : Nat) : 0 ≤ shrTo m k ∧ shrTo m k < 32 := by
  unfold shrTo; split <;> omega
set_option maxHeartbeats 1600000 in
set_option maxRecDepth 100000 in
theorem rreconf_out (h : RRep w S b d ev uv) (m : Int) (k : Nat) (hk : k < 5) (hm1 : 1 ≤ m) (hm2 : m < 32) (hx : (bits BinOp.and IntKind.i64 (shrTo m k) 1 == 0) = true) :
    Calls Try.prog 73 #[.pointer (some ⟨b, 0, none⟩), .int .i64 m, .int .i64 k] w fun e w' => e = .returned (.int .i64 10) ∧ w' = w := by
  clear h
  match k, hk with
  | 0, _ | 1, _ | 2, _ | 3, _ | 4, _ =>
    simp only [shrTo] at hx
    go_enter Try.func73, Try.ntmps73
    go_wp2
    go_ret
    exact ⟨rfl, rfl⟩
set_option maxHeartbeats 1600000 in
set_option maxRecDepth 100000 in
theorem rreconf_full (h : RRep w S b d ev uv) (m : Int) (k : Nat) (hk : k < 5) (hm1 : 1 ≤ m) (hm2 : m < 32) (hx : (bits BinOp.and IntKind.i64 (shrTo m k) 1 == 0) = false) (hf : 40 ≤ d.eras.length) :
    Calls Try.prog 73 #[.pointer (some ⟨b, 0, none⟩), .int .i64 m, .int .i64 k] w fun e w' => e = .returned (.int .i64 11) ∧ w' = w := by
  have c75 := h.cEras
  obtain ⟨ao, cap, hev, _, _, _⟩ := ownsRow_shape h.eras
  rw [hev] at c75
  have hf2 : (40 : Int) ≤ (d.eras.length : Int) := by omega
  clear h hev hf
  match k, hk with
  | 0, _ | 1, _ | 2, _ | 3, _ | 4, _ =>
    simp only [shrTo] at hx
    go_enter Try.func73, Try.ntmps73
    go_wp2
    go_ret
    exact ⟨rfl, rfl⟩
set_option maxHeartbeats 3200000 in
set_option maxRecDepth 100000 in
theorem rreconf_new (h : RRep w S b d ev uv) (hok : ROk d) (m : Int) (k : Nat) (hk : k < 5) (hm1 : 1 ≤ m) (hm2 : m < 32) (hx : (bits BinOp.and IntKind.i64 (shrTo m k) 1 == 0) = false) (hf : d.eras.length < 40) :
    Calls Try.prog 73 #[.pointer (some ⟨b, 0, none⟩), .int .i64 m, .int .i64 k] w fun e w' =>
      e = .returned (.int .i64 0) ∧ (∃ ev' uv', RRep w' (Ext S w) b (rSends { d with eras := d.eras ++ [⟨m, k, d.active⟩] } { kind := 1, frm := -1, to := k, epoch := d.eras.length + 1, n := 0, recs := [] }) ev' uv') ∧ Fr S w w' := by
  have H : Hid (RRep w S b d ev uv) := h
  have c75 := h.cEras
  have c76 := h.cAct
  have z75 := h.free 75
  have hb := h.lt
  have h1 := hok.e1
  have hway := hok.way
  have hown := h.eras
  obtain ⟨ao, cap, hev, _, _, hpos⟩ := ownsRow_shape h.eras
  obtain ⟨g, rfl⟩ := hpos (by omega)
  have hne : ev.ownBlock ≠ some b := by
    intro e
    obtain ⟨cs, hbl, _⟩ := h.blk
    obtain ⟨cu, hcu⟩ := ownsRow_block h.eras e
    exact ne_of_type hcu hbl (by decide) rfl
  subst hev
  have HOw : Hid (w.ownsRow 0 107 3 (.slice (some ⟨g, 0, none⟩) d.eras.length cap) d.eras.length (eraCells d.eras)) := hown
  have hf2 : (d.eras.length : Int) < 40 := by omega
  have hki0 : (0 : Int) ≤ (k : Int) := by omega
  have hki5 : (k : Int) < 5 := by omega
  clear h hok hown hpos
  obtain ⟨i0, hi0, hz0, hz1, hz2⟩ := info_parts infoEra
  have key : k = 0 ∨ k = 1 ∨ k = 2 ∨ k = 3 ∨ k = 4 := by omega
  clear hki0 hki5 hk
  rcases key with rfl | rfl | rfl | rfl | rfl
  · have HF : Hid (d.eras.length + 1 = (d.eras ++ [(⟨m, 0, d.active⟩ : Era)]).length) := by show _ = _; simp
    have hnews : ∀ u ∈ ([.int .i64 m, .int .i64 0, .int .i64 d.active] : List Value), u.oneCell' = true := by
      intro u hu
      simp only [List.mem_cons, List.not_mem_nil, or_false] at hu
      rcases hu with rfl | rfl | rfl <;> rfl
    simp only [shrTo] at hx
    go_enter Try.func73, Try.ntmps73
    go_wp2_with fail
    go_region_law ((refine step_append_lies _ (by rfl) _ _ _ (by rfl) 0 107 i0 _ 3 24 Try.underlying102 hi0 hz0 hz1 hz2 rfl (by omega) (.slice (some ⟨g, 0, none⟩) d.eras.length cap) d.eras.length (eraCells d.eras) (by rfl) (HOw.out.drew.alloc _) ⟨w.heap.size, 0, none⟩ 1 1 [.int .i64 m, .int .i64 0, .int .i64 d.active] (by rfl) (by rfl) (World.news_of_block (cs := #[.int .i64 m, .int .i64 0, .int .i64 d.active]) (t := 107) (fr := (0, 0)) (heap_alloc_new w.drew _)) hnews (by omega) (by unfold maxLen; omega) (by omega) (by omega) (w.heap.size + 1) (by simp) ?_; intro gg cap' w1 hown1 hgrow hat hlt2; have hc51 : w1.cell? ⟨b, 75, none⟩ = some (.slice (some ⟨g, 0, none⟩) d.eras.length cap) := (by rw [hgrow.cell_far _ (by simp; omega) (Ne.symm hne)]; simp [World.cell?_alloc_some, c75]); have hf51 : w1.frozen? ⟨b, 75, none⟩ = false := (by rw [hgrow.frozen_far _ (by simp; omega) (Ne.symm hne)]; simp [frozen?_alloc_cells, z75])))
    all_goals
      have hown2 : w1.ownsRow 0 107 3 (.slice (some ⟨gg, 0, none⟩) (d.eras.length + 1) cap') (d.eras.length + 1) (eraCells (d.eras ++ [(⟨m, 0, d.active⟩ : Era)])) := by
        rw [eraCells_append]
        exact hown1
      have R := H.out.newEras (W := (w.alloc (.cells #[.int .i64 m, .int .i64 0, .int .i64 d.active] 107)).drew) ((Fr.alloc _ _ _).then (Fr.drew _ _)) (.slice (some ⟨gg, 0, none⟩) (d.eras.length + 1) cap') (d.eras ++ [(⟨m, 0, d.active⟩ : Era)]) (d.eras.length + 1) gg HF.out rfl hown2 hgrow (orR hat fun e => by omega)
      clear hown1 hown2 hgrow hat hlt2 hc51 hf51 c75 c76 z75 hnews HOw hne
      generalize w1.setCell _ _ = W2 at R ⊢
      have cE := R.1.cEras
      have HR : Hid (RRep W2 (Ext S w) b { d with eras := d.eras ++ [(⟨m, 0, d.active⟩ : Era)] } (.slice (some ⟨gg, 0, none⟩) (d.eras.length + 1) cap') uv) := R.1
      have HFr : Hid (Fr S w W2) := R.2
      clear R
      go_wp2_with fail
      refine (rsends_any HR.out hway { kind := 1, frm := -1, to := 0, epoch := d.eras.length + 1, n := 0, recs := [] } _ rfl).mono ?_
      rintro e w3 ⟨rfl, ⟨uv3, hR3⟩, hF3⟩
      have HR3 : Hid _ := hR3
      have HF3 : Hid _ := hF3
      clear hR3 hF3
      go_wp2
      go_ret
      exact ⟨rfl, ⟨_, uv3, HR3.out.mono fun k _ e => by
        rcases e with e | e
        · exact e
        · exact Or.inr (Nat.le_trans HFr.out.size e)⟩, HFr.out.trans HF3.out⟩
  · have HF : Hid (d.eras.length + 1 = (d.eras ++ [(⟨m, 1, d.active⟩ : Era)]).length) := by show _ = _; simp
    have hnews : ∀ u ∈ ([.int .i64 m, .int .i64 1, .int .i64 d.active] : List Value), u.oneCell' = true := by
      intro u hu
      simp only [List.mem_cons, List.not_mem_nil, or_false] at hu
      rcases hu with rfl | rfl | rfl <;> rfl
    simp only [shrTo] at hx
    go_enter Try.func73, Try.ntmps73
    go_wp2_with fail
    go_region_law ((refine step_append_lies _ (by rfl) _ _ _ (by rfl) 0 107 i0 _ 3 24 Try.underlying102 hi0 hz0 hz1 hz2 rfl (by omega) (.slice (some ⟨g, 0, none⟩) d.eras.length cap) d.eras.length (eraCells d.eras) (by rfl) (HOw.out.drew.alloc _) ⟨w.heap.size, 0, none⟩ 1 1 [.int .i64 m, .int .i64 1, .int .i64 d.active] (by rfl) (by rfl) (World.news_of_block (cs := #[.int .i64 m, .int .i64 1, .int .i64 d.active]) (t := 107) (fr := (0, 0)) (heap_alloc_new w.drew _)) hnews (by omega) (by unfold maxLen; omega) (by omega) (by omega) (w.heap.size + 1) (by simp) ?_; intro gg cap' w1 hown1 hgrow hat hlt2; have hc51 : w1.cell? ⟨b, 75, none⟩ = some (.slice (some ⟨g, 0, none⟩) d.eras.length cap) := (by rw [hgrow.cell_far _ (by simp; omega) (Ne.symm hne)]; simp [World.cell?_alloc_some, c75]); have hf51 : w1.frozen? ⟨b, 75, none⟩ = false := (by rw [hgrow.frozen_far _ (by simp; omega) (Ne.symm hne)]; simp [frozen?_alloc_cells, z75])))
    all_goals
      have hown2 : w1.ownsRow 0 107 3 (.slice (some ⟨gg, 0, none⟩) (d.eras.length + 1) cap') (d.eras.length + 1) (eraCells (d.eras ++ [(⟨m, 1, d.active⟩ : Era)])) := by
        rw [eraCells_append]
        exact hown1
      have R := H.out.newEras (W := (w.alloc (.cells #[.int .i64 m, .int .i64 1, .int .i64 d.active] 107)).drew) ((Fr.alloc _ _ _).then (Fr.drew _ _)) (.slice (some ⟨gg, 0, none⟩) (d.eras.length + 1) cap') (d.eras ++ [(⟨m, 1, d.active⟩ : Era)]) (d.eras.length + 1) gg HF.out rfl hown2 hgrow (orR hat fun e => by omega)
      clear hown1 hown2 hgrow hat hlt2 hc51 hf51 c75 c76 z75 hnews HOw hne
      generalize w1.setCell _ _ = W2 at R ⊢
      have cE := R.1.cEras
      have HR : Hid (RRep W2 (Ext S w) b { d with eras := d.eras ++ [(⟨m, 1, d.active⟩ : Era)] } (.slice (some ⟨gg, 0, none⟩) (d.eras.length + 1) cap') uv) := R.1
      have HFr : Hid (Fr S w W2) := R.2
      clear R
      go_wp2_with fail
      refine (rsends_any HR.out hway { kind := 1, frm := -1, to := 1, epoch := d.eras.length + 1, n := 0, recs := [] } _ rfl).mono ?_
      rintro e w3 ⟨rfl, ⟨uv3, hR3⟩, hF3⟩
      have HR3 : Hid _ := hR3
      have HF3 : Hid _ := hF3
      clear hR3 hF3
      go_wp2
      go_ret
      exact ⟨rfl, ⟨_, uv3, HR3.out.mono fun k _ e => by
        rcases e with e | e
        · exact e
        · exact Or.inr (Nat.le_trans HFr.out.size e)⟩, HFr.out.trans HF3.out⟩
  · have HF : Hid (d.eras.length + 1 = (d.eras ++ [(⟨m, 2, d.active⟩ : Era)]).length) := by show _ = _; simp
    have hnews : ∀ u ∈ ([.int .i64 m, .int .i64 2, .int .i64 d.active] : List Value), u.oneCell' = true := by
      intro u hu
      simp only [List.mem_cons, List.not_mem_nil, or_false] at hu
      rcases hu with rfl | rfl | rfl <;> rfl
    simp only [shrTo] at hx
    go_enter Try.func73, Try.ntmps73
    go_wp2_with fail
    go_region_law ((refine step_append_lies _ (by rfl) _ _ _ (by rfl) 0 107 i0 _ 3 24 Try.underlying102 hi0 hz0 hz1 hz2 rfl (by omega) (.slice (some ⟨g, 0, none⟩) d.eras.length cap) d.eras.length (eraCells d.eras) (by rfl) (HOw.out.drew.alloc _) ⟨w.heap.size, 0, none⟩ 1 1 [.int .i64 m, .int .i64 2, .int .i64 d.active] (by rfl) (by rfl) (World.news_of_block (cs := #[.int .i64 m, .int .i64 2, .int .i64 d.active]) (t := 107) (fr := (0, 0)) (heap_alloc_new w.drew _)) hnews (by omega) (by unfold maxLen; omega) (by omega) (by omega) (w.heap.size + 1) (by simp) ?_; intro gg cap' w1 hown1 hgrow hat hlt2; have hc51 : w1.cell? ⟨b, 75, none⟩ = some (.slice (some ⟨g, 0, none⟩) d.eras.length cap) := (by rw [hgrow.cell_far _ (by simp; omega) (Ne.symm hne)]; simp [World.cell?_alloc_some, c75]); have hf51 : w1.frozen? ⟨b, 75, none⟩ = false := (by rw [hgrow.frozen_far _ (by simp; omega) (Ne.symm hne)]; simp [frozen?_alloc_cells, z75])))
    all_goals
      have hown2 : w1.ownsRow 0 107 3 (.slice (some ⟨gg, 0, none⟩) (d.eras.length + 1) cap') (d.eras.length + 1) (eraCells (d.eras ++ [(⟨m, 2, d.active⟩ : Era)])) := by
        rw [eraCells_append]
        exact hown1
      have R := H.out.newEras (W := (w.alloc (.cells #[.int .i64 m, .int .i64 2, .int .i64 d.active] 107)).drew) ((Fr.alloc _ _ _).then (Fr.drew _ _)) (.slice (some ⟨gg, 0, none⟩) (d.eras.length + 1) cap') (d.eras ++ [(⟨m, 2, d.active⟩ : Era)]) (d.eras.length + 1) gg HF.out rfl hown2 hgrow (orR hat fun e => by omega)
      clear hown1 hown2 hgrow hat hlt2 hc51 hf51 c75 c76 z75 hnews HOw hne
      generalize w1.setCell _ _ = W2 at R ⊢
      have cE := R.1.cEras
      have HR : Hid (RRep W2 (Ext S w) b { d with eras := d.eras ++ [(⟨m, 2, d.active⟩ : Era)] } (.slice (some ⟨gg, 0, none⟩) (d.eras.length + 1) cap') uv) := R.1
      have HFr : Hid (Fr S w W2) := R.2
      clear R
      go_wp2_with fail
      refine (rsends_any HR.out hway { kind := 1, frm := -1, to := 2, epoch := d.eras.length + 1, n := 0, recs := [] } _ rfl).mono ?_
      rintro e w3 ⟨rfl, ⟨uv3, hR3⟩, hF3⟩
      have HR3 : Hid _ := hR3
      have HF3 : Hid _ := hF3
      clear hR3 hF3
      go_wp2
      go_ret
      exact ⟨rfl, ⟨_, uv3, HR3.out.mono fun k _ e => by
        rcases e with e | e
        · exact e
        · exact Or.inr (Nat.le_trans HFr.out.size e)⟩, HFr.out.trans HF3.out⟩
  · have HF : Hid (d.eras.length + 1 = (d.eras ++ [(⟨m, 3, d.active⟩ : Era)]).length) := by show _ = _; simp
    have hnews : ∀ u ∈ ([.int .i64 m, .int .i64 3, .int .i64 d.active] : List Value), u.oneCell' = true := by
      intro u hu
      simp only [List.mem_cons, List.not_mem_nil, or_false] at hu
      rcases hu with rfl | rfl | rfl <;> rfl
    simp only [shrTo] at hx
    go_enter Try.func73, Try.ntmps73
    go_wp2_with fail
    go_region_law ((refine step_append_lies _ (by rfl) _ _ _ (by rfl) 0 107 i0 _ 3 24 Try.underlying102 hi0 hz0 hz1 hz2 rfl (by omega) (.slice (some ⟨g, 0, none⟩) d.eras.length cap) d.eras.length (eraCells d.eras) (by rfl) (HOw.out.drew.alloc _) ⟨w.heap.size, 0, none⟩ 1 1 [.int .i64 m, .int .i64 3, .int .i64 d.active] (by rfl) (by rfl) (World.news_of_block (cs := #[.int .i64 m, .int .i64 3, .int .i64 d.active]) (t := 107) (fr := (0, 0)) (heap_alloc_new w.drew _)) hnews (by omega) (by unfold maxLen; omega) (by omega) (by omega) (w.heap.size + 1) (by simp) ?_; intro gg cap' w1 hown1 hgrow hat hlt2; have hc51 : w1.cell? ⟨b, 75, none⟩ = some (.slice (some ⟨g, 0, none⟩) d.eras.length cap) := (by rw [hgrow.cell_far _ (by simp; omega) (Ne.symm hne)]; simp [World.cell?_alloc_some, c75]); have hf51 : w1.frozen? ⟨b, 75, none⟩ = false := (by rw [hgrow.frozen_far _ (by simp; omega) (Ne.symm hne)]; simp [frozen?_alloc_cells, z75])))
    all_goals
      have hown2 : w1.ownsRow 0 107 3 (.slice (some ⟨gg, 0, none⟩) (d.eras.length + 1) cap') (d.eras.length + 1) (eraCells (d.eras ++ [(⟨m, 3, d.active⟩ : Era)])) := by
        rw [eraCells_append]
        exact hown1
      have R := H.out.newEras (W := (w.alloc (.cells #[.int .i64 m, .int .i64 3, .int .i64 d.active] 107)).drew) ((Fr.alloc _ _ _).then (Fr.drew _ _)) (.slice (some ⟨gg, 0, none⟩) (d.eras.length + 1) cap') (d.eras ++ [(⟨m, 3, d.active⟩ : Era)]) (d.eras.length + 1) gg HF.out rfl hown2 hgrow (orR hat fun e => by omega)
      clear hown1 hown2 hgrow hat hlt2 hc51 hf51 c75 c76 z75 hnews HOw hne
      generalize w1.setCell _ _ = W2 at R ⊢
      have cE := R.1.cEras
      have HR : Hid (RRep W2 (Ext S w) b { d with eras := d.eras ++ [(⟨m, 3, d.active⟩ : Era)] } (.slice (some ⟨gg, 0, none⟩) (d.eras.length + 1) cap') uv) := R.1
      have HFr : Hid (Fr S w W2) := R.2
      clear R
      go_wp2_with fail
      refine (rsends_any HR.out hway { kind := 1, frm := -1, to := 3, epoch := d.eras.length + 1, n := 0, recs := [] } _ rfl).mono ?_
      rintro e w3 ⟨rfl, ⟨uv3, hR3⟩, hF3⟩
      have HR3 : Hid _ := hR3
      have HF3 : Hid _ := hF3
      clear hR3 hF3
      go_wp2
      go_ret
      exact ⟨rfl, ⟨_, uv3, HR3.out.mono fun k _ e => by
        rcases e with e | e
        · exact e
        · exact Or.inr (Nat.le_trans HFr.out.size e)⟩, HFr.out.trans HF3.out⟩
  · have HF : Hid (d.eras.length + 1 = (d.eras ++ [(⟨m, 4, d.active⟩ : Era)]).length) := by show _ = _; simp
    have hnews : ∀ u ∈ ([.int .i64 m, .int .i64 4, .int .i64 d.active] : List Value), u.oneCell' = true := by
      intro u hu
      simp only [List.mem_cons, List.not_mem_nil, or_false] at hu
      rcases hu with rfl | rfl | rfl <;> rfl
    simp only [shrTo] at hx
    go_enter Try.func73, Try.ntmps73
    go_wp2_with fail
    go_region_law ((refine step_append_lies _ (by rfl) _ _ _ (by rfl) 0 107 i0 _ 3 24 Try.underlying102 hi0 hz0 hz1 hz2 rfl (by omega) (.slice (some ⟨g, 0, none⟩) d.eras.length cap) d.eras.length (eraCells d.eras) (by rfl) (HOw.out.drew.alloc _) ⟨w.heap.size, 0, none⟩ 1 1 [.int .i64 m, .int .i64 4, .int .i64 d.active] (by rfl) (by rfl) (World.news_of_block (cs := #[.int .i64 m, .int .i64 4, .int .i64 d.active]) (t := 107) (fr := (0, 0)) (heap_alloc_new w.drew _)) hnews (by omega) (by unfold maxLen; omega) (by omega) (by omega) (w.heap.size + 1) (by simp) ?_; intro gg cap' w1 hown1 hgrow hat hlt2; have hc51 : w1.cell? ⟨b, 75, none⟩ = some (.slice (some ⟨g, 0, none⟩) d.eras.length cap) := (by rw [hgrow.cell_far _ (by simp; omega) (Ne.symm hne)]; simp [World.cell?_alloc_some, c75]); have hf51 : w1.frozen? ⟨b, 75, none⟩ = false := (by rw [hgrow.frozen_far _ (by simp; omega) (Ne.symm hne)]; simp [frozen?_alloc_cells, z75])))
    all_goals
      have hown2 : w1.ownsRow 0 107 3 (.slice (some ⟨gg, 0, none⟩) (d.eras.length + 1) cap') (d.eras.length + 1) (eraCells (d.eras ++ [(⟨m, 4, d.active⟩ : Era)])) := by
        rw [eraCells_append]
        exact hown1
      have R := H.out.newEras (W := (w.alloc (.cells #[.int .i64 m, .int .i64 4, .int .i64 d.active] 107)).drew) ((Fr.alloc _ _ _).then (Fr.drew _ _)) (.slice (some ⟨gg, 0, none⟩) (d.eras.length + 1) cap') (d.eras ++ [(⟨m, 4, d.active⟩ : Era)]) (d.eras.length + 1) gg HF.out rfl hown2 hgrow (orR hat fun e => by omega)
      clear hown1 hown2 hgrow hat hlt2 hc51 hf51 c75 c76 z75 hnews HOw hne
      generalize w1.setCell _ _ = W2 at R ⊢
      have cE := R.1.cEras
      have HR : Hid (RRep W2 (Ext S w) b { d with eras := d.eras ++ [(⟨m, 4, d.active⟩ : Era)] } (.slice (some ⟨gg, 0, none⟩) (d.eras.length + 1) cap') uv) := R.1
      have HFr : Hid (Fr S w W2) := R.2
      clear R
      go_wp2_with fail
      refine (rsends_any HR.out hway { kind := 1, frm := -1, to := 4, epoch := d.eras.length + 1, n := 0, recs := [] } _ rfl).mono ?_
      rintro e w3 ⟨rfl, ⟨uv3, hR3⟩, hF3⟩
      have HR3 : Hid _ := hR3
      have HF3 : Hid _ := hF3
      clear hR3 hF3
      go_wp2
      go_ret
      exact ⟨rfl, ⟨_, uv3, HR3.out.mono fun k _ e => by
        rcases e with e | e
        · exact e
        · exact Or.inr (Nat.le_trans HFr.out.size e)⟩, HFr.out.trans HF3.out⟩
theorem rreconf_any (h : RRep w S b d ev uv) (hok : ROk d) (m l : Int) :
    Calls Try.prog 73 #[.pointer (some ⟨b, 0, none⟩), .int .i64 m, .int .i64 l] w fun e w' =>
      e = .returned (.int .i64 (rReconf d m l).2) ∧ (∃ ev' uv', RRep w' (Ext S w) b (rReconf d m l).1 ev' uv') ∧ Fr S w w' := by
  cases hb : rBad m l
  · obtain ⟨h1, h2, h3, h4⟩ := rBad_no hb
    obtain ⟨k, rfl⟩ := Int.eq_ofNat_of_zero_le h3
    have hk : k < 5 := by omega
    obtain ⟨s1, s2⟩ := shrTo_bounds m h1 h2 k
    have hbit := bits_one (shrTo m k) s1 s2
    have hsh := shrTo_eq m k hk
    by_cases hz : shrTo m k % 2 = 0
    · have e : rReconf d m k = (d, 10) := by
        simp only [rReconf, hb, Int.toNat_natCast, hsh]; simp [hz]
      rw [e]
      refine (rreconf_out h m k hk h1 h2 (by rw [hbit, hz]; rfl)).mono ?_
      rintro e w1 ⟨rfl, hw1⟩; rw [hw1]
      exact ⟨rfl, ⟨_, _, h.mono fun _ _ e => Or.inl e⟩, Fr.refl _ _⟩
    · have hx : (bits BinOp.and IntKind.i64 (shrTo m k) 1 == 0) = false := by rw [hbit]; simp [hz]
      by_cases hf : 40 ≤ d.eras.length
      · have e : rReconf d m k = (d, 11) := by
          simp only [rReconf, hb, Int.toNat_natCast, hsh]; simp [hz, hf]
        rw [e]
        refine (rreconf_full h m k hk h1 h2 hx hf).mono ?_
        rintro e w1 ⟨rfl, hw1⟩; rw [hw1]
        exact ⟨rfl, ⟨_, _, h.mono fun _ _ e => Or.inl e⟩, Fr.refl _ _⟩
      · have e : rReconf d m k = (rSends { d with eras := d.eras ++ [⟨m, k, d.active⟩] } { kind := 1, frm := -1, to := k, epoch := d.eras.length + 1, n := 0, recs := [] }, 0) := by
          simp only [rReconf, hb, Int.toNat_natCast, hsh]; simp [hz, hf]
        rw [e]
        exact rreconf_new h hok m k hk h1 h2 hx (by omega)
  · have e : rReconf d m l = (d, 10) := by simp [rReconf, hb]
    rw [e]
    refine (rreconf_bad h m l hb).mono ?_
    rintro e w1 ⟨rfl, hw1⟩; rw [hw1]
    exact ⟨rfl, ⟨_, _, h.mono fun _ _ e => Or.inl e⟩, Fr.refl _ _⟩
end
end Go.Proofs.Ythpfgmdffendoaa
