/- My own text: several texts in one. -/
import Derived.Test.YthpjcmilfipbaaaR5
import Derived.Test.YthpjcmilfipbaaaR9
import Derived.Test.YthpjcmilfipbaaaR10
namespace Go.Proofs.Ythpjcmilfipbaaa
set_option linter.unusedVariables false
set_option linter.unusedSimpArgs false
open Go.RowKit
section
variable {w : World} {S : Nat → Prop} {b : Nat} {d : Wd} {ev uv : Value}
theorem rproduce_any (h : RRep w S b d ev uv) (hok : ROk d) (node p s v : Int) :
    Calls Try.prog 61 #[.pointer (some ⟨b, 0, none⟩), .int .i64 node, .int .i64 p, .int .i64 s, .int .i64 v] w fun e w' =>
      e = .returned (.tuple #[.int .i64 (rProduce d node p s v).2.1, .bool (rProduce d node p s v).2.2.1, .int .i64 (rProduce d node p s v).2.2.2]) ∧
      (∃ uv', RRep w' (Ext S w) b (rProduce d node p s v).1 ev uv') ∧ Fr S w w' := by
  by_cases hold : ∃ k : Nat, node = k ∧ k < 5 ∧ rRef d (k : Int) true = 0 ∧ recB p s v = true ∧ (d.mem k).role = 3 ∧ ¬ offsetOf (d.mem k).log p s < 0
  · obtain ⟨k, rfl, hk, h1, h2, h3, h4⟩ := hold
    exact rproduce_old h hok k hk p s v h1 h2 h3 h4
  by_cases hnew : ∃ k : Nat, node = k ∧ k < 5 ∧ rRef d (k : Int) true = 0 ∧ recB p s v = true ∧ (d.mem k).role = 3 ∧ offsetOf (d.mem k).log p s < 0 ∧ ¬ (1 < s ∧ offsetOf (d.mem k).log p (s - 1) < 0) ∧ (d.mem k).log.length < 60
  · obtain ⟨k, rfl, hk, h1, h2, h3, h4, h5, h6⟩ := hnew
    exact rproduce_new h hok k hk p s v h1 h2 h3 h4 h5 h6
  exact rproduce_err h hok node p s v hold hnew

set_option maxHeartbeats 800000 in
theorem rcrash_nil (node : Int) (w : World) :
    Calls Try.prog 85 #[.pointer none, .int .i64 node] w fun e w' => e = .returned (.int .i64 1) ∧ w' = w := by
  go_enter Try.func85, Try.ntmps85
  go_wp2_with (first | (go_at_call 72; refine (rref_nil _ _ _).mono ?_; rintro e w1 ⟨rfl, hw1⟩; rw [hw1]; clear hw1))
  go_ret
  exact ⟨rfl, rfl⟩
set_option maxHeartbeats 800000 in
theorem rrestart_nil (node : Int) (w : World) :
    Calls Try.prog 86 #[.pointer none, .int .i64 node] w fun e w' => e = .returned (.int .i64 1) ∧ w' = w := by
  go_enter Try.func86, Try.ntmps86
  go_wp2_with (first | (go_at_call 72; refine (rref_nil _ _ _).mono ?_; rintro e w1 ⟨rfl, hw1⟩; rw [hw1]; clear hw1))
  go_ret
  exact ⟨rfl, rfl⟩
theorem rRef_cases (d : Wd) (node : Int) (up : Bool) : rRef d node up = 0 ∨ rRef d node up = 2 ∨ rRef d node up = 3 := by
  unfold rRef; split
  · split <;> simp
  · simp

set_option maxHeartbeats 1600000 in
theorem rcrash_any (h : RRep w S b d ev uv) (node : Int) :
    Calls Try.prog 85 #[.pointer (some ⟨b, 0, none⟩), .int .i64 node] w fun e w' =>
      e = .returned (.int .i64 (rCrash d node).2) ∧ RRep w' S b (rCrash d node).1 ev uv ∧ Fr S w w' := by
  have H : Hid (RRep w S b d ev uv) := h
  by_cases hr : rRef d node true = 0
  · obtain ⟨k, rfl, hk, _⟩ := rRef_zero hr
    have HF : Hid (rCrash d k = (d.put k { d.mem k with up := false, role := 0 }, 0)) := by show rCrash d k = _; rw [rCrash, if_pos hr]; rfl
    have c0 := h.cUp k hk
    have c3 := h.cRol k hk
    have z0 := h.free (k * 15)
    have z3 := h.free (k * 15 + 3)
    have hki0 : (0 : Int) ≤ (k : Int) := by omega
    have hki5 : (k : Int) < 5 := by omega
    clear h
    go_enter Try.func85, Try.ntmps85
    go_wp2_with (first | (go_at_call 72; refine (rref_any H.out _ _).mono ?_; rintro e w1 ⟨rfl, hw1⟩; rw [hw1, hr]; clear hw1))
    go_ret
    have q1 := H.out.setCell (k * 15) (.bool false) (d.put k { d.mem k with up := false }) rfl rfl (fun cs hcs => hcs.setUp k hk false)
    have q2 := q1.1.setCell (k * 15 + 3) (.int .i64 0) (d.put k { d.mem k with up := false, role := 0 }) rfl rfl (fun cs hcs => by
      have := hcs.setRol k hk 0
      have e2 : ((d.put k { d.mem k with up := false }).put k { (d.put k { d.mem k with up := false }).mem k with role := 0 }).mem = (d.put k { d.mem k with up := false, role := 0 }).mem := by
        funext i; simp only [put_mem]; split <;> simp_all
      rw [e2] at this; exact this)
    rw [HF.out]
    exact ⟨rfl, q2.1, q1.2.then q2.2⟩
  · have HF : Hid (rCrash d node = (d, rRef d node true)) := by show rCrash d node = _; rw [rCrash, if_neg hr]
    rcases (rRef_cases d node true).resolve_left hr with hr2 | hr2
    all_goals
      clear h hr
      go_enter Try.func85, Try.ntmps85
      go_wp2_with (first | (go_at_call 72; refine (rref_any H.out _ _).mono ?_; rintro e w1 ⟨rfl, hw1⟩; rw [hw1, hr2]; clear hw1))
      go_ret
      rw [HF.out, hr2]
      exact ⟨rfl, H.out, Fr.refl _ _⟩

set_option maxHeartbeats 1600000 in
theorem rrestart_any (h : RRep w S b d ev uv) (node : Int) :
    Calls Try.prog 86 #[.pointer (some ⟨b, 0, none⟩), .int .i64 node] w fun e w' =>
      e = .returned (.int .i64 (rRestart d node).2) ∧ RRep w' S b (rRestart d node).1 ev uv ∧ Fr S w w' := by
  have H : Hid (RRep w S b d ev uv) := h
  by_cases hr : rRef d node false = 0
  · obtain ⟨k, rfl, hk, _⟩ := rRef_zero hr
    have c0 := h.cUp k hk
    have z0 := h.free (k * 15)
    have hki0 : (0 : Int) ≤ (k : Int) := by omega
    have hki5 : (k : Int) < 5 := by omega
    clear h
    cases hup : (d.mem k).up
    · have HF : Hid (rRestart d k = (d.put k { d.mem k with up := true }, 0)) := by
        show rRestart d k = _
        rw [rRestart, if_neg (by simp [hr])]
        simp [hup]
      rw [hup] at c0
      go_enter Try.func86, Try.ntmps86
      go_wp2_with (first | (go_at_call 72; refine (rref_any H.out _ _).mono ?_; rintro e w1 ⟨rfl, hw1⟩; rw [hw1, hr]; clear hw1))
      go_ret
      have q1 := H.out.setCell (k * 15) (.bool true) (d.put k { d.mem k with up := true }) rfl rfl (fun cs hcs => hcs.setUp k hk true)
      rw [HF.out]
      exact ⟨rfl, q1.1, q1.2⟩
    · have HF : Hid (rRestart d k = (d, 4)) := by
        show rRestart d k = _
        rw [rRestart, if_neg (by simp [hr])]
        simp [hup]
      rw [hup] at c0
      go_enter Try.func86, Try.ntmps86
      go_wp2_with (first | (go_at_call 72; refine (rref_any H.out _ _).mono ?_; rintro e w1 ⟨rfl, hw1⟩; rw [hw1, hr]; clear hw1))
      go_ret
      rw [HF.out]
      exact ⟨rfl, H.out, Fr.refl _ _⟩
  · have HF : Hid (rRestart d node = (d, rRef d node false)) := by show rRestart d node = _; rw [rRestart, if_pos hr]
    rcases (rRef_cases d node false).resolve_left hr with hr2 | hr2
    all_goals
      clear h hr
      go_enter Try.func86, Try.ntmps86
      go_wp2_with (first | (go_at_call 72; refine (rref_any H.out _ _).mono ?_; rintro e w1 ⟨rfl, hw1⟩; rw [hw1, hr2]; clear hw1))
      go_ret
      rw [HF.out, hr2]
      exact ⟨rfl, H.out, Fr.refl _ _⟩

set_option maxHeartbeats 800000 in
theorem rremind_nil (w : World) :
    Calls Try.prog 88 #[.pointer none] w fun e w' => e = .returned (.int .i64 1) ∧ w' = w := by
  go_enter Try.func88, Try.ntmps88
  go_wp2
  go_ret
  exact ⟨rfl, rfl⟩

set_option maxHeartbeats 1600000 in
theorem rremind_any (h : RRep w S b d ev uv) (hok : ROk d) :
    Calls Try.prog 88 #[.pointer (some ⟨b, 0, none⟩)] w fun e w' =>
      e = .returned (.int .i64 (rRemind d).2) ∧ (∃ uv', RRep w' (Ext S w) b (rRemind d).1 ev uv') ∧ Fr S w w' := by
  have c75 := h.cEras
  have c76 := h.cAct
  have hb := h.lt
  have h40 := hok.e40
  have h1 := hok.e1
  have hown := h.eras
  obtain ⟨ao, cap, hev, _, _, hpos⟩ := ownsRow_shape h.eras
  obtain ⟨g, rfl⟩ := hpos (by omega)
  rw [hev] at c75 hown
  obtain ⟨q, hq⟩ : ∃ q, d.eras.length = q + 1 := ⟨d.eras.length - 1, by omega⟩
  have hql : q < d.eras.length := by omega
  obtain ⟨_, cl, _⟩ := era_cells hown q d.eras[q] (by simp [hql])
  have H : Hid (RRep w S b d ev uv) := h
  have hway := hok.way
  have HE : Hid (d.era (d.eras.length : Int) = d.eras[q]) := by
    show d.era (d.eras.length : Int) = _
    have e1 : ((d.eras.length : Int) - 1).toNat = q := by omega
    rw [Wd.era, e1]; simp [hql]
  have hwr : IntKind.i64.wrap ((d.eras.length : Int) - 1) = (q : Int) := by rw [wrap_small _ (by omega) (by omega)]; omega
  have hqi0 : (0 : Int) ≤ (q : Int) := by omega
  have hqi1 : (q : Int) < (d.eras.length : Int) := by omega
  clear h hok hown hev hpos
  generalize hld : d.eras[q].leader = ld at cl
  have HL : Hid ((d.era (d.eras.length : Int)).leader = ld) := by show (d.era (d.eras.length : Int)).leader = ld; rw [HE.out]; exact hld
  clear hld HE hq
  by_cases ha : d.active = (d.eras.length : Int)
  · have ba : (d.active == (d.eras.length : Int)) = true := by simp [ha]
    have HF : Hid (rRemind d = (d, 12)) := by show rRemind d = _; rw [rRemind, if_pos ha]
    go_enter Try.func88, Try.ntmps88
    go_wp2
    go_ret
    rw [HF.out]
    exact ⟨rfl, ⟨uv, H.out.mono fun _ _ e => Or.inl e⟩, Fr.refl _ _⟩
  · have ba : (d.active == (d.eras.length : Int)) = false := by simp [ha]
    have HF : Hid (rRemind d = (rSends d { kind := 1, frm := -1, to := (d.era d.eras.length).leader, epoch := d.eras.length, n := 0, recs := [] }, 0)) := by show rRemind d = _; rw [rRemind, if_neg ha]
    clear ha
    go_enter Try.func88, Try.ntmps88
    go_wp2_with fail
    refine (rsends_any H.out hway { kind := 1, frm := -1, to := ld, epoch := d.eras.length, n := 0, recs := [] } _ rfl).mono ?_
    rintro e w3 ⟨rfl, ⟨uv3, hR3⟩, hF3⟩
    have HR3 : Hid _ := hR3
    have HF3 : Hid _ := hF3
    clear hR3 hF3
    go_wp2
    go_ret
    rw [HF.out, HL.out]
    exact ⟨rfl, ⟨uv3, HR3.out⟩, HF3.out⟩

def confVal (e m l a : Int) : Value := .agg #[.int .i64 e, .int .i64 m, .int .i64 l, .int .i64 a]
set_option maxHeartbeats 800000 in
theorem rconfig_nil (w : World) :
    Calls Try.prog 89 #[.pointer none] w fun e w' => e = .returned (.tuple #[confVal 0 0 0 0, .int .i64 1]) ∧ Below w.heap.size w w' := by
  unfold confVal
  go_enter Try.func89, Try.ntmps89
  go_wp2
  exact bodyPost_ret (v := .tuple #[.agg #[.int .i64 0, .int .i64 0, .int .i64 0, .int .i64 0], .int .i64 1]) (by simp [results, Try.results89, go_sem, *]) rfl ⟨rfl, (Below.refl _ _).alloc (Nat.le_refl _) _⟩
set_option maxHeartbeats 1600000 in
set_option maxRecDepth 100000 in
theorem rconfig_any (h : RRep w S b d ev uv) (hok : ROk d) :
    Calls Try.prog 89 #[.pointer (some ⟨b, 0, none⟩)] w fun e w' =>
      e = .returned (.tuple #[confVal d.eras.length (d.era d.eras.length).members (d.era d.eras.length).leader d.active, .int .i64 0]) ∧ Below w.heap.size w w' := by
  have c75 := h.cEras
  have c76 := h.cAct
  have hb := h.lt
  have h40 := hok.e40
  have h1 := hok.e1
  have hown := h.eras
  obtain ⟨ao, cap, hev, _, _, hpos⟩ := ownsRow_shape h.eras
  obtain ⟨g, rfl⟩ := hpos (by omega)
  rw [hev] at c75 hown
  have hgl := ownsRow_lt hown (g := g) rfl
  obtain ⟨q, hq⟩ : ∃ q, d.eras.length = q + 1 := ⟨d.eras.length - 1, by omega⟩
  have hql : q < d.eras.length := by omega
  obtain ⟨cm, cl, _⟩ := era_cells hown q d.eras[q] (by simp [hql])
  have HE : Hid (d.era (d.eras.length : Int) = d.eras[q]) := by
    show d.era (d.eras.length : Int) = _
    have e1 : ((d.eras.length : Int) - 1).toNat = q := by omega
    rw [Wd.era, e1]; simp [hql]
  have hwr : IntKind.i64.wrap ((d.eras.length : Int) - 1) = (q : Int) := by rw [wrap_small _ (by omega) (by omega)]; omega
  have hqi0 : (0 : Int) ≤ (q : Int) := by omega
  have hqi1 : (q : Int) < (d.eras.length : Int) := by omega
  clear h hok hown hev hpos
  rw [HE.out]
  clear HE hq
  generalize d.eras[q].leader = ld at cl ⊢
  generalize d.eras[q].members = mm at cm ⊢
  unfold confVal
  have nb : ¬ b = w.heap.size := by omega
  have ng : ¬ g = w.heap.size := by omega
  go_enter Try.func89, Try.ntmps89
  go_wp2_with fail
  refine wp_genR (fun W => Below w.heap.size w W ∧ W.heap[w.heap.size]? = some (.cells #[.int .i64 0, .int .i64 0, .int .i64 0, .int .i64 0] 59)) ⟨(Below.refl _ _).alloc (Nat.le_refl _) _, heap_alloc_new w _⟩ ?_
  rintro W ⟨hWB, hWZ⟩
  replace c75 := (hWB.cell (p := ⟨b, 75, none⟩) hb).trans c75
  replace c76 := (hWB.cell (p := ⟨b, 76, none⟩) hb).trans c76
  replace cm := (hWB.cell (p := ⟨g, q * 3, none⟩) hgl).trans cm
  replace cl := (hWB.cell (p := ⟨g, q * 3 + 1, none⟩) hgl).trans cl
  have HWB : Hid (Below w.heap.size w W) := hWB
  have z : ∀ j, W.cell? ⟨w.heap.size, j, none⟩ = (#[.int .i64 0, .int .i64 0, .int .i64 0, .int .i64 0] : Array Value)[j]? := fun j => cell_of_row _ _ _ _ _ _ hWZ
  have z0 := z 0; have z1 := z 1; have z2 := z 2; have z3 := z 3
  simp at z0 z1 z2 z3
  have y : ∀ j, W.frozen? ⟨w.heap.size, j, none⟩ = false := fun j => by simp [World.frozen?, hWZ]
  have y0 := y 0; have y1 := y 1; have y2 := y 2; have y3 := y 3
  clear z y hWB hWZ hb hgl
  generalize hNq : w.heap.size = N at *
  have HN : Hid (N = w.heap.size) := hNq.symm
  clear hNq
  have fb : ∀ (V : World) (o : Nat) (a : Value) (j : Nat), (V.setCell ⟨N, o, none⟩ a).cell? ⟨b, j, none⟩ = V.cell? ⟨b, j, none⟩ := fun V o a j => World.cell?_of_block (Below.heap_setCell V ⟨N, o, none⟩ a b nb)
  have fg : ∀ (V : World) (o : Nat) (a : Value) (j : Nat), (V.setCell ⟨N, o, none⟩ a).cell? ⟨g, j, none⟩ = V.cell? ⟨g, j, none⟩ := fun V o a j => World.cell?_of_block (Below.heap_setCell V ⟨N, o, none⟩ a g ng)
  have Fb : Hid (∀ (V : World) (o : Nat) (a : Value) (j : Nat), (V.setCell ⟨N, o, none⟩ a).cell? ⟨b, j, none⟩ = V.cell? ⟨b, j, none⟩) := fb
  have Fg : Hid (∀ (V : World) (o : Nat) (a : Value) (j : Nat), (V.setCell ⟨N, o, none⟩ a).cell? ⟨g, j, none⟩ = V.cell? ⟨g, j, none⟩) := fg
  clear fb fg
  go_region_held3 (fun w' => w'.cell? ⟨b, 75, none⟩ = some (.slice (some ⟨g, 0, none⟩) d.eras.length cap) ∧ w'.cell? ⟨b, 76, none⟩ = some (.int .i64 d.active) ∧ w'.cell? ⟨g, q * 3, none⟩ = some (.int .i64 mm) ∧ w'.cell? ⟨g, q * 3 + 1, none⟩ = some (.int .i64 ld))
    (first
      | (simp only [World.cell?_drew, c75, c76, cm, cl, and_self]; done)
      | (simp only [World.cell?_drew, Fb.out, Fg.out, c75, c76, cm, cl, and_self]; done))
    (fail)
  go_wp2
  have HB3 : Below N w ((((W.setCell ⟨N, 0, none⟩ (.int .i64 d.eras.length)).setCell ⟨N, 1, none⟩ (.int .i64 mm)).setCell ⟨N, 2, none⟩ (.int .i64 ld)).setCell ⟨N, 3, none⟩ (.int .i64 d.active)).drew :=
    ((((HWB.out.setCell (Nat.le_refl _) _).setCell (Nat.le_refl _) _).setCell (Nat.le_refl _) _).setCell (Nat.le_refl _) _).drew
  exact bodyPost_ret (v := .tuple #[.agg #[.int .i64 d.eras.length, .int .i64 mm, .int .i64 ld, .int .i64 d.active], .int .i64 0]) (by simp [results, Try.results89, go_sem, *]) rfl ⟨rfl, HB3.mono (Nat.le_of_eq HN.out.symm)⟩
end
end Go.Proofs.Ythpjcmilfipbaaa

namespace Go.Proofs.Ythpjcmilfipbaaa
set_option linter.unusedVariables false
set_option linter.unusedSimpArgs false
open Go.RowKit
theorem infoEra : (Try.prog.info? 118).map (fun i => (i.zero, i.size, i.bytes)) = some (some (.agg #[.int .i64 0, .int .i64 0, .int .i64 0]), 3, 24) := by kernel_rfl
section
variable {w : World} {S : Nat → Prop} {b : Nat} {d : Wd} {ev uv : Value}
/-- The list of epochs is another one now. -/
theorem RRep.newEras {w1 : World} (h : RRep w S b d ev uv) {W : World} (hW : Fr No w W) (v' : Value) (eras' : List Era) (n gg : Nat) (hn : n = eras'.length) (hv' : v'.ownBlock = some gg)
    (hown : w1.ownsRow 0 118 3 v' n (eraCells eras')) (hgrow : W.grownBy w1 ev.ownBlock) (hat : ev.ownBlock = some gg ∨ w.heap.size ≤ gg) :
    RRep (w1.setCell ⟨b, 75, none⟩ v') (Ext S w) b { d with eras := eras' } v' uv ∧ Fr S w (w1.setCell ⟨b, 75, none⟩ v') := by
  obtain ⟨cs, hbl, hc⟩ := h.blk
  have hb := h.lt
  have hblkne : ∀ {g : Nat} {v : Value} {k : Nat} {xs : List Value} {e sz : Nat}, w.ownsRow 0 e sz v k xs → v.ownBlock = some g → e ≠ 116 → g ≠ b := by
    intro g v k xs e sz ho hg he
    obtain ⟨cu, hcu⟩ := ownsRow_block ho hg
    exact ne_of_type hcu hbl he
  have hgb : gg ≠ b := by
    rcases hat with e | e
    · exact hblkne h.eras e (by decide)
    · omega
  have hold : ∀ k, k < w.heap.size → ev.ownBlock ≠ some k → w1.heap[k]? = w.heap[k]? := fun k hk hu =>
    (hgrow.block k (Nat.lt_of_lt_of_le hk hW.size) (fun e => hu e.symm)).trans (hW.block k hk (fun e => e))
  have hset : ∀ k, k ≠ b → (w1.setCell ⟨b, 75, none⟩ v').heap[k]? = w1.heap[k]? := fun k hk => Below.heap_setCell _ _ _ _ hk
  have hub : ev.ownBlock ≠ some b := fun e => hblkne h.eras e (by decide) rfl
  refine ⟨?_, ?_⟩
  · exact { blk := ⟨_, heap_setCell_at _ _ _ _ _ _ _ ((hold b hb hub).trans hbl), by
              refine hc.set 75 v' (by omega) ?_ ?_ ?_ ?_ ?_ ?_ ?_ ?_ ?_ ?_
              all_goals first | (intro i j hi hj; rw [if_neg (by omega)]) | (intro i hi; rw [if_neg (by omega)]) | rfl⟩
            inb := Or.inl h.inb
            way := by
              refine ownsRow_same h.way fun g hg hl => ?_
              have h1 : g ≠ b := hblkne h.way hg (by decide)
              obtain ⟨cu, hcu⟩ := ownsRow_block h.way hg
              rw [hset g h1, hold g hl]
              intro e
              obtain ⟨cu', hcu'⟩ := ownsRow_block h.eras e
              exact ne_of_type hcu hcu' (by decide) rfl
            wayS := fun g hg => Or.inl (h.wayS g hg)
            eras := by
              rw [← hn]
              exact ownsRow_same hown fun g hg _ => hset g (by rw [hv'] at hg; simp at hg; omega)
            eraS := fun g hg => by
              rw [hv'] at hg; simp at hg; subst hg
              rcases hat with e | e
              · exact Or.inl (h.eraS _ e)
              · exact Or.inr e }
  · have f1 : Fr S w w1 := (hW.mono (fun _ e => e.elim)).then (Fr.grown hgrow fun k hk => h.eraS k hk)
    exact f1.then (Fr.setCell _ _ h.inb _)

set_option maxHeartbeats 800000 in
theorem rreconf_nil (m l : Int) (w : World) :
    Calls Try.prog 87 #[.pointer none, .int .i64 m, .int .i64 l] w fun e w' => e = .returned (.int .i64 1) ∧ w' = w := by
  go_enter Try.func87, Try.ntmps87
  go_wp2
  go_ret
  exact ⟨rfl, rfl⟩

set_option maxHeartbeats 1600000 in
set_option maxRecDepth 100000 in
theorem rreconf_bad (h : RRep w S b d ev uv) (m l : Int) (hbad : rBad m l = true) :
    Calls Try.prog 87 #[.pointer (some ⟨b, 0, none⟩), .int .i64 m, .int .i64 l] w fun e w' => e = .returned (.int .i64 10) ∧ w' = w := by
  have key : m < 1 ∨ (1 ≤ m ∧ 32 ≤ m) ∨ (1 ≤ m ∧ m < 32 ∧ l < 0) ∨ (1 ≤ m ∧ m < 32 ∧ 0 ≤ l ∧ 5 ≤ l) := by simp [rBad] at hbad; omega
  clear h hbad
  rcases key with q1 | ⟨q1, q2⟩ | ⟨q1, q2, q3⟩ | ⟨q1, q2, q3, q4⟩
  all_goals
    go_enter Try.func87, Try.ntmps87
    go_wp2
    go_ret
    exact ⟨rfl, rfl⟩
theorem rBad_no {m l : Int} (h : rBad m l = false) : 1 ≤ m ∧ m < 32 ∧ 0 ≤ l ∧ l < 5 := by simp [rBad] at h; omega
def shrTo (m : Int) : Nat → Int
  | 0 => m
  | 1 => m / 2
  | 2 => m / 4
  | 3 => m / 8
  | _ => m / 16
theorem shrTo_eq (m : Int) (k : Nat) (hk : k < 5) : m / 2 ^ k = shrTo m k := by
  match k, hk with
  | 0, _ => simp [shrTo]
  | 1, _ => simp [shrTo]
  | 2, _ => simp [shrTo]
  | 3, _ => simp [shrTo]
  | 4, _ => simp [shrTo]
theorem shrTo_bounds (m : Int) (h1 : 1 ≤ m) (h2 : m < 32) (k : Nat) : 0 ≤ shrTo m k ∧ shrTo m k < 32 := by
  unfold shrTo; split <;> omega
set_option maxHeartbeats 1600000 in
set_option maxRecDepth 100000 in
theorem rreconf_out (h : RRep w S b d ev uv) (m : Int) (k : Nat) (hk : k < 5) (hm1 : 1 ≤ m) (hm2 : m < 32) (hx : (bits BinOp.and IntKind.i64 (shrTo m k) 1 == 0) = true) :
    Calls Try.prog 87 #[.pointer (some ⟨b, 0, none⟩), .int .i64 m, .int .i64 k] w fun e w' => e = .returned (.int .i64 10) ∧ w' = w := by
  clear h
  match k, hk with
  | 0, _ | 1, _ | 2, _ | 3, _ | 4, _ =>
    simp only [shrTo] at hx
    go_enter Try.func87, Try.ntmps87
    go_wp2
    go_ret
    exact ⟨rfl, rfl⟩
set_option maxHeartbeats 1600000 in
set_option maxRecDepth 100000 in
theorem rreconf_full (h : RRep w S b d ev uv) (m : Int) (k : Nat) (hk : k < 5) (hm1 : 1 ≤ m) (hm2 : m < 32) (hx : (bits BinOp.and IntKind.i64 (shrTo m k) 1 == 0) = false) (hf : 40 ≤ d.eras.length) :
    Calls Try.prog 87 #[.pointer (some ⟨b, 0, none⟩), .int .i64 m, .int .i64 k] w fun e w' => e = .returned (.int .i64 11) ∧ w' = w := by
  have c75 := h.cEras
  obtain ⟨ao, cap, hev, _, _, _⟩ := ownsRow_shape h.eras
  rw [hev] at c75
  have hf2 : (40 : Int) ≤ (d.eras.length : Int) := by omega
  clear h hev hf
  match k, hk with
  | 0, _ | 1, _ | 2, _ | 3, _ | 4, _ =>
    simp only [shrTo] at hx
    go_enter Try.func87, Try.ntmps87
    go_wp2
    go_ret
    exact ⟨rfl, rfl⟩
set_option maxHeartbeats 3200000 in
set_option maxRecDepth 100000 in
theorem rreconf_new (h : RRep w S b d ev uv) (hok : ROk d) (m : Int) (k : Nat) (hk : k < 5) (hm1 : 1 ≤ m) (hm2 : m < 32) (hx : (bits BinOp.and IntKind.i64 (shrTo m k) 1 == 0) = false) (hf : d.eras.length < 40) :
    Calls Try.prog 87 #[.pointer (some ⟨b, 0, none⟩), .int .i64 m, .int .i64 k] w fun e w' =>
      e = .returned (.int .i64 0) ∧ (∃ ev' uv', RRep w' (Ext S w) b (rSends { d with eras := d.eras ++ [⟨m, k, d.active⟩] } { kind := 1, frm := -1, to := k, epoch := d.eras.length + 1, n := 0, recs := [] }) ev' uv') ∧ Fr S w w' := by
  have H : Hid (RRep w S b d ev uv) := h
  have c75 := h.cEras
  have c76 := h.cAct
  have z75 := h.free 75
  have hb := h.lt
  have h1 := hok.e1
  have hway := hok.way
  have hown := h.eras
  obtain ⟨ao, cap, hev, _, _, hpos⟩ := ownsRow_shape h.eras
  obtain ⟨g, rfl⟩ := hpos (by omega)
  have hne : ev.ownBlock ≠ some b := by
    intro e
    obtain ⟨cs, hbl, _⟩ := h.blk
    obtain ⟨cu, hcu⟩ := ownsRow_block h.eras e
    exact ne_of_type hcu hbl (by decide) rfl
  subst hev
  have HOw : Hid (w.ownsRow 0 118 3 (.slice (some ⟨g, 0, none⟩) d.eras.length cap) d.eras.length (eraCells d.eras)) := hown
  have hf2 : (d.eras.length : Int) < 40 := by omega
  have hki0 : (0 : Int) ≤ (k : Int) := by omega
  have hki5 : (k : Int) < 5 := by omega
  clear h hok hown hpos
  obtain ⟨i0, hi0, hz0, hz1, hz2⟩ := info_parts infoEra
  have key : k = 0 ∨ k = 1 ∨ k = 2 ∨ k = 3 ∨ k = 4 := by omega
  clear hki0 hki5 hk
  rcases key with rfl | rfl | rfl | rfl | rfl
  · have HF : Hid (d.eras.length + 1 = (d.eras ++ [(⟨m, 0, d.active⟩ : Era)]).length) := by show _ = _; simp
    have hnews : ∀ u ∈ ([.int .i64 m, .int .i64 0, .int .i64 d.active] : List Value), u.oneCell' = true := by
      intro u hu
      simp only [List.mem_cons, List.not_mem_nil, or_false] at hu
      rcases hu with rfl | rfl | rfl <;> rfl
    simp only [shrTo] at hx
    go_enter Try.func87, Try.ntmps87
    go_wp2_with fail
    go_region_law ((refine step_append_lies _ (by rfl) _ _ _ (by rfl) 0 118 i0 _ 3 24 Try.underlying113 hi0 hz0 hz1 hz2 rfl (by omega) (.slice (some ⟨g, 0, none⟩) d.eras.length cap) d.eras.length (eraCells d.eras) (by rfl) (HOw.out.drew.alloc _) ⟨w.heap.size, 0, none⟩ 1 1 [.int .i64 m, .int .i64 0, .int .i64 d.active] (by rfl) (by rfl) (World.news_of_block (cs := #[.int .i64 m, .int .i64 0, .int .i64 d.active]) (t := 118) (fr := (0, 0)) (heap_alloc_new w.drew _)) hnews (by omega) (by unfold maxLen; omega) (by omega) (by omega) (w.heap.size + 1) (by simp) ?_; intro gg cap' w1 hown1 hgrow hat hlt2; have hc51 : w1.cell? ⟨b, 75, none⟩ = some (.slice (some ⟨g, 0, none⟩) d.eras.length cap) := (by rw [hgrow.cell_far _ (by simp; omega) (Ne.symm hne)]; simp [World.cell?_alloc_some, c75]); have hf51 : w1.frozen? ⟨b, 75, none⟩ = false := (by rw [hgrow.frozen_far _ (by simp; omega) (Ne.symm hne)]; simp [frozen?_alloc_cells, z75])))
    all_goals
      have hown2 : w1.ownsRow 0 118 3 (.slice (some ⟨gg, 0, none⟩) (d.eras.length + 1) cap') (d.eras.length + 1) (eraCells (d.eras ++ [(⟨m, 0, d.active⟩ : Era)])) := by
        rw [eraCells_append]
        exact hown1
      have R := H.out.newEras (W := (w.alloc (.cells #[.int .i64 m, .int .i64 0, .int .i64 d.active] 118)).drew) ((Fr.alloc _ _ _).then (Fr.drew _ _)) (.slice (some ⟨gg, 0, none⟩) (d.eras.length + 1) cap') (d.eras ++ [(⟨m, 0, d.active⟩ : Era)]) (d.eras.length + 1) gg HF.out rfl hown2 hgrow (orR hat fun e => by omega)
      clear hown1 hown2 hgrow hat hlt2 hc51 hf51 c75 c76 z75 hnews HOw hne
      generalize w1.setCell _ _ = W2 at R ⊢
      have cE := R.1.cEras
      have HR : Hid (RRep W2 (Ext S w) b { d with eras := d.eras ++ [(⟨m, 0, d.active⟩ : Era)] } (.slice (some ⟨gg, 0, none⟩) (d.eras.length + 1) cap') uv) := R.1
      have HFr : Hid (Fr S w W2) := R.2
      clear R
      go_wp2_with fail
      refine (rsends_any HR.out hway { kind := 1, frm := -1, to := 0, epoch := d.eras.length + 1, n := 0, recs := [] } _ rfl).mono ?_
      rintro e w3 ⟨rfl, ⟨uv3, hR3⟩, hF3⟩
      have HR3 : Hid _ := hR3
      have HF3 : Hid _ := hF3
      clear hR3 hF3
      go_wp2
      go_ret
      exact ⟨rfl, ⟨_, uv3, HR3.out.mono fun k _ e => by
        rcases e with e | e
        · exact e
        · exact Or.inr (Nat.le_trans HFr.out.size e)⟩, HFr.out.trans HF3.out⟩
  · have HF : Hid (d.eras.length + 1 = (d.eras ++ [(⟨m, 1, d.active⟩ : Era)]).length) := by show _ = _; simp
    have hnews : ∀ u ∈ ([.int .i64 m, .int .i64 1, .int .i64 d.active] : List Value), u.oneCell' = true := by
      intro u hu
      simp only [List.mem_cons, List.not_mem_nil, or_false] at hu
      rcases hu with rfl | rfl | rfl <;> rfl
    simp only [shrTo] at hx
    go_enter Try.func87, Try.ntmps87
    go_wp2_with fail
    go_region_law ((refine step_append_lies _ (by rfl) _ _ _ (by rfl) 0 118 i0 _ 3 24 Try.underlying113 hi0 hz0 hz1 hz2 rfl (by omega) (.slice (some ⟨g, 0, none⟩) d.eras.length cap) d.eras.length (eraCells d.eras) (by rfl) (HOw.out.drew.alloc _) ⟨w.heap.size, 0, none⟩ 1 1 [.int .i64 m, .int .i64 1, .int .i64 d.active] (by rfl) (by rfl) (World.news_of_block (cs := #[.int .i64 m, .int .i64 1, .int .i64 d.active]) (t := 118) (fr := (0, 0)) (heap_alloc_new w.drew _)) hnews (by omega) (by unfold maxLen; omega) (by omega) (by omega) (w.heap.size + 1) (by simp) ?_; intro gg cap' w1 hown1 hgrow hat hlt2; have hc51 : w1.cell? ⟨b, 75, none⟩ = some (.slice (some ⟨g, 0, none⟩) d.eras.length cap) := (by rw [hgrow.cell_far _ (by simp; omega) (Ne.symm hne)]; simp [World.cell?_alloc_some, c75]); have hf51 : w1.frozen? ⟨b, 75, none⟩ = false := (by rw [hgrow.frozen_far _ (by simp; omega) (Ne.symm hne)]; simp [frozen?_alloc_cells, z75])))
    all_goals
      have hown2 : w1.ownsRow 0 118 3 (.slice (some ⟨gg, 0, none⟩) (d.eras.length + 1) cap') (d.eras.length + 1) (eraCells (d.eras ++ [(⟨m, 1, d.active⟩ : Era)])) := by
        rw [eraCells_append]
        exact hown1
      have R := H.out.newEras (W := (w.alloc (.cells #[.int .i64 m, .int .i64 1, .int .i64 d.active] 118)).drew) ((Fr.alloc _ _ _).then (Fr.drew _ _)) (.slice (some ⟨gg, 0, none⟩) (d.eras.length + 1) cap') (d.eras ++ [(⟨m, 1, d.active⟩ : Era)]) (d.eras.length + 1) gg HF.out rfl hown2 hgrow (orR hat fun e => by omega)
      clear hown1 hown2 hgrow hat hlt2 hc51 hf51 c75 c76 z75 hnews HOw hne
      generalize w1.setCell _ _ = W2 at R ⊢
      have cE := R.1.cEras
      have HR : Hid (RRep W2 (Ext S w) b { d with eras := d.eras ++ [(⟨m, 1, d.active⟩ : Era)] } (.slice (some ⟨gg, 0, none⟩) (d.eras.length + 1) cap') uv) := R.1
      have HFr : Hid (Fr S w W2) := R.2
      clear R
      go_wp2_with fail
      refine (rsends_any HR.out hway { kind := 1, frm := -1, to := 1, epoch := d.eras.length + 1, n := 0, recs := [] } _ rfl).mono ?_
      rintro e w3 ⟨rfl, ⟨uv3, hR3⟩, hF3⟩
      have HR3 : Hid _ := hR3
      have HF3 : Hid _ := hF3
      clear hR3 hF3
      go_wp2
      go_ret
      exact ⟨rfl, ⟨_, uv3, HR3.out.mono fun k _ e => by
        rcases e with e | e
        · exact e
        · exact Or.inr (Nat.le_trans HFr.out.size e)⟩, HFr.out.trans HF3.out⟩
  · have HF : Hid (d.eras.length + 1 = (d.eras ++ [(⟨m, 2, d.active⟩ : Era)]).length) := by show _ = _; simp
    have hnews : ∀ u ∈ ([.int .i64 m, .int .i64 2, .int .i64 d.active] : List Value), u.oneCell' = true := by
      intro u hu
      simp only [List.mem_cons, List.not_mem_nil, or_false] at hu
      rcases hu with rfl | rfl | rfl <;> rfl
    simp only [shrTo] at hx
    go_enter Try.func87, Try.ntmps87
    go_wp2_with fail
    go_region_law ((refine step_append_lies _ (by rfl) _ _ _ (by rfl) 0 118 i0 _ 3 24 Try.underlying113 hi0 hz0 hz1 hz2 rfl (by omega) (.slice (some ⟨g, 0, none⟩) d.eras.length cap) d.eras.length (eraCells d.eras) (by rfl) (HOw.out.drew.alloc _) ⟨w.heap.size, 0, none⟩ 1 1 [.int .i64 m, .int .i64 2, .int .i64 d.active] (by rfl) (by rfl) (World.news_of_block (cs := #[.int .i64 m, .int .i64 2, .int .i64 d.active]) (t := 118) (fr := (0, 0)) (heap_alloc_new w.drew _)) hnews (by omega) (by unfold maxLen; omega) (by omega) (by omega) (w.heap.size + 1) (by simp) ?_; intro gg cap' w1 hown1 hgrow hat hlt2; have hc51 : w1.cell? ⟨b, 75, none⟩ = some (.slice (some ⟨g, 0, none⟩) d.eras.length cap) := (by rw [hgrow.cell_far _ (by simp; omega) (Ne.symm hne)]; simp [World.cell?_alloc_some, c75]); have hf51 : w1.frozen? ⟨b, 75, none⟩ = false := (by rw [hgrow.frozen_far _ (by simp; omega) (Ne.symm hne)]; simp [frozen?_alloc_cells, z75])))
    all_goals
      have hown2 : w1.ownsRow 0 118 3 (.slice (some ⟨gg, 0, none⟩) (d.eras.length + 1) cap') (d.eras.length + 1) (eraCells (d.eras ++ [(⟨m, 2, d.active⟩ : Era)])) := by
        rw [eraCells_append]
        exact hown1
      have R := H.out.newEras (W := (w.alloc (.cells #[.int .i64 m, .int .i64 2, .int .i64 d.active] 118)).drew) ((Fr.alloc _ _ _).then (Fr.drew _ _)) (.slice (some ⟨gg, 0, none⟩) (d.eras.length + 1) cap') (d.eras ++ [(⟨m, 2, d.active⟩ : Era)]) (d.eras.length + 1) gg HF.out rfl hown2 hgrow (orR hat fun e => by omega)
      clear hown1 hown2 hgrow hat hlt2 hc51 hf51 c75 c76 z75 hnews HOw hne
      generalize w1.setCell _ _ = W2 at R ⊢
      have cE := R.1.cEras
      have HR : Hid (RRep W2 (Ext S w) b { d with eras := d.eras ++ [(⟨m, 2, d.active⟩ : Era)] } (.slice (some ⟨gg, 0, none⟩) (d.eras.length + 1) cap') uv) := R.1
      have HFr : Hid (Fr S w W2) := R.2
      clear R
      go_wp2_with fail
      refine (rsends_any HR.out hway { kind := 1, frm := -1, to := 2, epoch := d.eras.length + 1, n := 0, recs := [] } _ rfl).mono ?_
      rintro e w3 ⟨rfl, ⟨uv3, hR3⟩, hF3⟩
      have HR3 : Hid _ := hR3
      have HF3 : Hid _ := hF3
      clear hR3 hF3
      go_wp2
      go_ret
      exact ⟨rfl, ⟨_, uv3, HR3.out.mono fun k _ e => by
        rcases e with e | e
        · exact e
        · exact Or.inr (Nat.le_trans HFr.out.size e)⟩, HFr.out.trans HF3.out⟩
  · have HF : Hid (d.eras.length + 1 = (d.eras ++ [(⟨m, 3, d.active⟩ : Era)]).length) := by show _ = _; simp
    have hnews : ∀ u ∈ ([.int .i64 m, .int .i64 3, .int .i64 d.active] : List Value), u.oneCell' = true := by
      intro u hu
      simp only [List.mem_cons, List.not_mem_nil, or_false] at hu
      rcases hu with rfl | rfl | rfl <;> rfl
    simp only [shrTo] at hx
    go_enter Try.func87, Try.ntmps87
    go_wp2_with fail
    go_region_law ((refine step_append_lies _ (by rfl) _ _ _ (by rfl) 0 118 i0 _ 3 24 Try.underlying113 hi0 hz0 hz1 hz2 rfl (by omega) (.slice (some ⟨g, 0, none⟩) d.eras.length cap) d.eras.length (eraCells d.eras) (by rfl) (HOw.out.drew.alloc _) ⟨w.heap.size, 0, none⟩ 1 1 [.int .i64 m, .int .i64 3, .int .i64 d.active] (by rfl) (by rfl) (World.news_of_block (cs := #[.int .i64 m, .int .i64 3, .int .i64 d.active]) (t := 118) (fr := (0, 0)) (heap_alloc_new w.drew _)) hnews (by omega) (by unfold maxLen; omega) (by omega) (by omega) (w.heap.size + 1) (by simp) ?_; intro gg cap' w1 hown1 hgrow hat hlt2; have hc51 : w1.cell? ⟨b, 75, none⟩ = some (.slice (some ⟨g, 0, none⟩) d.eras.length cap) := (by rw [hgrow.cell_far _ (by simp; omega) (Ne.symm hne)]; simp [World.cell?_alloc_some, c75]); have hf51 : w1.frozen? ⟨b, 75, none⟩ = false := (by rw [hgrow.frozen_far _ (by simp; omega) (Ne.symm hne)]; simp [frozen?_alloc_cells, z75])))
    all_goals
      have hown2 : w1.ownsRow 0 118 3 (.slice (some ⟨gg, 0, none⟩) (d.eras.length + 1) cap') (d.eras.length + 1) (eraCells (d.eras ++ [(⟨m, 3, d.active⟩ : Era)])) := by
        rw [eraCells_append]
        exact hown1
      have R := H.out.newEras (W := (w.alloc (.cells #[.int .i64 m, .int .i64 3, .int .i64 d.active] 118)).drew) ((Fr.alloc _ _ _).then (Fr.drew _ _)) (.slice (some ⟨gg, 0, none⟩) (d.eras.length + 1) cap') (d.eras ++ [(⟨m, 3, d.active⟩ : Era)]) (d.eras.length + 1) gg HF.out rfl hown2 hgrow (orR hat fun e => by omega)
      clear hown1 hown2 hgrow hat hlt2 hc51 hf51 c75 c76 z75 hnews HOw hne
      generalize w1.setCell _ _ = W2 at R ⊢
      have cE := R.1.cEras
      have HR : Hid (RRep W2 (Ext S w) b { d with eras := d.eras ++ [(⟨m, 3, d.active⟩ : Era)] } (.slice (some ⟨gg, 0, none⟩) (d.eras.length + 1) cap') uv) := R.1
      have HFr : Hid (Fr S w W2) := R.2
      clear R
      go_wp2_with fail
      refine (rsends_any HR.out hway { kind := 1, frm := -1, to := 3, epoch := d.eras.length + 1, n := 0, recs := [] } _ rfl).mono ?_
      rintro e w3 ⟨rfl, ⟨uv3, hR3⟩, hF3⟩
      have HR3 : Hid _ := hR3
      have HF3 : Hid _ := hF3
      clear hR3 hF3
      go_wp2
      go_ret
      exact ⟨rfl, ⟨_, uv3, HR3.out.mono fun k _ e => by
        rcases e with e | e
        · exact e
        · exact Or.inr (Nat.le_trans HFr.out.size e)⟩, HFr.out.trans HF3.out⟩
  · have HF : Hid (d.eras.length + 1 = (d.eras ++ [(⟨m, 4, d.active⟩ : Era)]).length) := by show _ = _; simp
    have hnews : ∀ u ∈ ([.int .i64 m, .int .i64 4, .int .i64 d.active] : List Value), u.oneCell' = true := by
      intro u hu
      simp only [List.mem_cons, List.not_mem_nil, or_false] at hu
      rcases hu with rfl | rfl | rfl <;> rfl
    simp only [shrTo] at hx
    go_enter Try.func87, Try.ntmps87
    go_wp2_with fail
    go_region_law ((refine step_append_lies _ (by rfl) _ _ _ (by rfl) 0 118 i0 _ 3 24 Try.underlying113 hi0 hz0 hz1 hz2 rfl (by omega) (.slice (some ⟨g, 0, none⟩) d.eras.length cap) d.eras.length (eraCells d.eras) (by rfl) (HOw.out.drew.alloc _) ⟨w.heap.size, 0, none⟩ 1 1 [.int .i64 m, .int .i64 4, .int .i64 d.active] (by rfl) (by rfl) (World.news_of_block (cs := #[.int .i64 m, .int .i64 4, .int .i64 d.active]) (t := 118) (fr := (0, 0)) (heap_alloc_new w.drew _)) hnews (by omega) (by unfold maxLen; omega) (by omega) (by omega) (w.heap.size + 1) (by simp) ?_; intro gg cap' w1 hown1 hgrow hat hlt2; have hc51 : w1.cell? ⟨b, 75, none⟩ = some (.slice (some ⟨g, 0, none⟩) d.eras.length cap) := (by rw [hgrow.cell_far _ (by simp; omega) (Ne.symm hne)]; simp [World.cell?_alloc_some, c75]); have hf51 : w1.frozen? ⟨b, 75, none⟩ = false := (by rw [hgrow.frozen_far _ (by simp; omega) (Ne.symm hne)]; simp [frozen?_alloc_cells, z75])))
    all_goals
      have hown2 : w1.ownsRow 0 118 3 (.slice (some ⟨gg, 0, none⟩) (d.eras.length + 1) cap') (d.eras.length + 1) (eraCells (d.eras ++ [(⟨m, 4, d.active⟩ : Era)])) := by
        rw [eraCells_append]
        exact hown1
      have R := H.out.newEras (W := (w.alloc (.cells #[.int .i64 m, .int .i64 4, .int .i64 d.active] 118)).drew) ((Fr.alloc _ _ _).then (Fr.drew _ _)) (.slice (some ⟨gg, 0, none⟩) (d.eras.length + 1) cap') (d.eras ++ [(⟨m, 4, d.active⟩ : Era)]) (d.eras.length + 1) gg HF.out rfl hown2 hgrow (orR hat fun e => by omega)
      clear hown1 hown2 hgrow hat hlt2 hc51 hf51 c75 c76 z75 hnews HOw hne
      generalize w1.setCell _ _ = W2 at R ⊢
      have cE := R.1.cEras
      have HR : Hid (RRep W2 (Ext S w) b { d with eras := d.eras ++ [(⟨m, 4, d.active⟩ : Era)] } (.slice (some ⟨gg, 0, none⟩) (d.eras.length + 1) cap') uv) := R.1
      have HFr : Hid (Fr S w W2) := R.2
      clear R
      go_wp2_with fail
      refine (rsends_any HR.out hway { kind := 1, frm := -1, to := 4, epoch := d.eras.length + 1, n := 0, recs := [] } _ rfl).mono ?_
      rintro e w3 ⟨rfl, ⟨uv3, hR3⟩, hF3⟩
      have HR3 : Hid _ := hR3
      have HF3 : Hid _ := hF3
      clear hR3 hF3
      go_wp2
      go_ret
      exact ⟨rfl, ⟨_, uv3, HR3.out.mono fun k _ e => by
        rcases e with e | e
        · exact e
        · exact Or.inr (Nat.le_trans HFr.out.size e)⟩, HFr.out.trans HF3.out⟩
theorem rreconf_any (h : RRep w S b d ev uv) (hok : ROk d) (m l : Int) :
    Calls Try.prog 87 #[.pointer (some ⟨b, 0, none⟩), .int .i64 m, .int .i64 l] w fun e w' =>
      e = .returned (.int .i64 (rReconf d m l).2) ∧ (∃ ev' uv', RRep w' (Ext S w) b (rReconf d m l).1 ev' uv') ∧ Fr S w w' := by
  cases hb : rBad m l
  · obtain ⟨h1, h2, h3, h4⟩ := rBad_no hb
    obtain ⟨k, rfl⟩ := Int.eq_ofNat_of_zero_le h3
    have hk : k < 5 := by omega
    obtain ⟨s1, s2⟩ := shrTo_bounds m h1 h2 k
    have hbit := bits_one (shrTo m k) s1 s2
    have hsh := shrTo_eq m k hk
    by_cases hz : shrTo m k % 2 = 0
    · have e : rReconf d m k = (d, 10) := by
        simp only [rReconf, hb, Int.toNat_natCast, hsh]; simp [hz]
      rw [e]
      refine (rreconf_out h m k hk h1 h2 (by rw [hbit, hz]; rfl)).mono ?_
      rintro e w1 ⟨rfl, hw1⟩; rw [hw1]
      exact ⟨rfl, ⟨_, _, h.mono fun _ _ e => Or.inl e⟩, Fr.refl _ _⟩
    · have hx : (bits BinOp.and IntKind.i64 (shrTo m k) 1 == 0) = false := by rw [hbit]; simp [hz]
      by_cases hf : 40 ≤ d.eras.length
      · have e : rReconf d m k = (d, 11) := by
          simp only [rReconf, hb, Int.toNat_natCast, hsh]; simp [hz, hf]
        rw [e]
        refine (rreconf_full h m k hk h1 h2 hx hf).mono ?_
        rintro e w1 ⟨rfl, hw1⟩; rw [hw1]
        exact ⟨rfl, ⟨_, _, h.mono fun _ _ e => Or.inl e⟩, Fr.refl _ _⟩
      · have e : rReconf d m k = (rSends { d with eras := d.eras ++ [⟨m, k, d.active⟩] } { kind := 1, frm := -1, to := k, epoch := d.eras.length + 1, n := 0, recs := [] }, 0) := by
          simp only [rReconf, hb, Int.toNat_natCast, hsh]; simp [hz, hf]
        rw [e]
        exact rreconf_new h hok m k hk h1 h2 hx (by omega)
  · have e : rReconf d m l = (d, 10) := by simp [rReconf, hb]
    rw [e]
    refine (rreconf_bad h m l hb).mono ?_
    rintro e w1 ⟨rfl, hw1⟩; rw [hw1]
    exact ⟨rfl, ⟨_, _, h.mono fun _ _ e => Or.inl e⟩, Fr.refl _ _⟩
end
end Go.Proofs.Ythpjcmilfipbaaa
