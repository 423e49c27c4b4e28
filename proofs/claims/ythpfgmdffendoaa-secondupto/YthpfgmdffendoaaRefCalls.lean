/- My own text. Walks of package ledgerref: Crash, Restart, Remind, Config; Produce as a whole. -/
import Derived.Test.YthpfgmdffendoaaRefLeads3
import Derived.Test.YthpfgmdffendoaaRefProdNew
import Derived.Test.YthpfgmdffendoaaRefProdOld
namespace Go.Proofs.Ythpfgmdffendoaa
set_option linter.unusedVariables false
set_option linter.unusedSimpArgs false
open Go.RowKit
section
variable {w : World} {S : Nat → Prop} {b : Nat} {d : Wd} {ev uv : Value}
theorem rproduce_any (h : RRep w S b d ev uv) (hok : ROk d) (node p s v : Int) :
    Calls Try.prog 47 #[.pointer (some ⟨b, 0, none⟩), .int .i64 node, .int .i64 p, .int .i64 s, .int .i64 v] w fun e w' =>
      e = .returned (.tuple #[.int .i64 (rProduce d node p s v).2.1, .bool (rProduce d node p s v).2.2.1, .int .i64 (rProduce d node p s v).2.2.2]) ∧
      (∃ uv', RRep w' (Ext S w) b (rProduce d node p s v).1 ev uv') ∧ Fr S w w' := by
  by_cases hold : ∃ k : Nat, node = k ∧ k < 5 ∧ rRef d (k : Int) true = 0 ∧ recB p s v = true ∧ (d.mem k).role = 3 ∧ ¬ offsetOf (d.mem k).log p s < 0
  · obtain ⟨k, rfl, hk, h1, h2, h3, h4⟩ := hold
    exact rproduce_old h hok k hk p s v h1 h2 h3 h4
  by_cases hnew : ∃ k : Nat, node = k ∧ k < 5 ∧ rRef d (k : Int) true = 0 ∧ recB p s v = true ∧ (d.mem k).role = 3 ∧ offsetOf (d.mem k).log p s < 0 ∧ ¬ (1 < s ∧ offsetOf (d.mem k).log p (s - 1) < 0) ∧ (d.mem k).log.length < 60
  · obtain ⟨k, rfl, hk, h1, h2, h3, h4, h5, h6⟩ := hnew
    exact rproduce_new h hok k hk p s v h1 h2 h3 h4 h5 h6
  exact rproduce_err h hok node p s v hold hnew

set_option maxHeartbeats 800000 in
theorem rcrash_nil (node : Int) (w : World) :
    Calls Try.prog 71 #[.pointer none, .int .i64 node] w fun e w' => e = .returned (.int .i64 1) ∧ w' = w := by
  go_enter Try.func71, Try.ntmps71
  go_wp2_with (first | (go_at_call 58; refine (rref_nil _ _ _).mono ?_; rintro e w1 ⟨rfl, hw1⟩; rw [hw1]; clear hw1))
  go_ret
  exact ⟨rfl, rfl⟩
set_option maxHeartbeats 800000 in
theorem rrestart_nil (node : Int) (w : World) :
    Calls Try.prog 72 #[.pointer none, .int .i64 node] w fun e w' => e = .returned (.int .i64 1) ∧ w' = w := by
  go_enter Try.func72, Try.ntmps72
  go_wp2_with (first | (go_at_call 58; refine (rref_nil _ _ _).mono ?_; rintro e w1 ⟨rfl, hw1⟩; rw [hw1]; clear hw1))
  go_ret
  exact ⟨rfl, rfl⟩
theorem rRef_cases (d : Wd) (node : Int) (up : Bool) : rRef d node up = 0 ∨ rRef d node up = 2 ∨ rRef d node up = 3 := by
  unfold rRef; split
  · split <;> simp
  · simp

set_option maxHeartbeats 1600000 in
theorem rcrash_any (h : RRep w S b d ev uv) (node : Int) :
    Calls Try.prog 71 #[.pointer (some ⟨b, 0, none⟩), .int .i64 node] w fun e w' =>
      e = .returned (.int .i64 (rCrash d node).2) ∧ RRep w' S b (rCrash d node).1 ev uv ∧ Fr S w w' := by
  have H : Hid (RRep w S b d ev uv) := h
  by_cases hr : rRef d node true = 0
  · obtain ⟨k, rfl, hk, _⟩ := rRef_zero hr
    have HF : Hid (rCrash d k = (d.put k { d.mem k with up := false, role := 0 }, 0)) := by show rCrash d k = _; rw [rCrash, if_pos hr]; rfl
    have c0 := h.cUp k hk
    have c3 := h.cRol k hk
    have z0 := h.free (k * 15)
    have z3 := h.free (k * 15 + 3)
    have hki0 : (0 : Int) ≤ (k : Int) := by omega
    have hki5 : (k : Int) < 5 := by omega
    clear h
    go_enter Try.func71, Try.ntmps71
    go_wp2_with (first | (go_at_call 58; refine (rref_any H.out _ _).mono ?_; rintro e w1 ⟨rfl, hw1⟩; rw [hw1, hr]; clear hw1))
    go_ret
    have q1 := H.out.setCell (k * 15) (.bool false) (d.put k { d.mem k with up := false }) rfl rfl (fun cs hcs => hcs.setUp k hk false)
    have q2 := q1.1.setCell (k * 15 + 3) (.int .i64 0) (d.put k { d.mem k with up := false, role := 0 }) rfl rfl (fun cs hcs => by
      have := hcs.setRol k hk 0
      have e2 : ((d.put k { d.mem k with up := false }).put k { (d.put k { d.mem k with up := false }).mem k with role := 0 }).mem = (d.put k { d.mem k with up := false, role := 0 }).mem := by
        funext i; simp only [put_mem]; split <;> simp_all
      rw [e2] at this; exact this)
    rw [HF.out]
    exact ⟨rfl, q2.1, q1.2.then q2.2⟩
  · have HF : Hid (rCrash d node = (d, rRef d node true)) := by show rCrash d node = _; rw [rCrash, if_neg hr]
    rcases (rRef_cases d node true).resolve_left hr with hr2 | hr2
    all_goals
      clear h hr
      go_enter Try.func71, Try.ntmps71
      go_wp2_with (first | (go_at_call 58; refine (rref_any H.out _ _).mono ?_; rintro e w1 ⟨rfl, hw1⟩; rw [hw1, hr2]; clear hw1))
      go_ret
      rw [HF.out, hr2]
      exact ⟨rfl, H.out, Fr.refl _ _⟩

set_option maxHeartbeats 1600000 in
theorem rrestart_any (h : RRep w S b d ev uv) (node : Int) :
    Calls Try.prog 72 #[.pointer (some ⟨b, 0, none⟩), .int .i64 node] w fun e w' =>
      e = .returned (.int .i64 (rRestart d node).2) ∧ RRep w' S b (rRestart d node).1 ev uv ∧ Fr S w w' := by
  have H : Hid (RRep w S b d ev uv) := h
  by_cases hr : rRef d node false = 0
  · obtain ⟨k, rfl, hk, _⟩ := rRef_zero hr
    have c0 := h.cUp k hk
    have z0 := h.free (k * 15)
    have hki0 : (0 : Int) ≤ (k : Int) := by omega
    have hki5 : (k : Int) < 5 := by omega
    clear h
    cases hup : (d.mem k).up
    · have HF : Hid (rRestart d k = (d.put k { d.mem k with up := true }, 0)) := by
        show rRestart d k = _
        rw [rRestart, if_neg (by simp [hr])]
        simp [hup]
      rw [hup] at c0
      go_enter Try.func72, Try.ntmps72
      go_wp2_with (first | (go_at_call 58; refine (rref_any H.out _ _).mono ?_; rintro e w1 ⟨rfl, hw1⟩; rw [hw1, hr]; clear hw1))
      go_ret
      have q1 := H.out.setCell (k * 15) (.bool true) (d.put k { d.mem k with up := true }) rfl rfl (fun cs hcs => hcs.setUp k hk true)
      rw [HF.out]
      exact ⟨rfl, q1.1, q1.2⟩
    · have HF : Hid (rRestart d k = (d, 4)) := by
        show rRestart d k = _
        rw [rRestart, if_neg (by simp [hr])]
        simp [hup]
      rw [hup] at c0
      go_enter Try.func72, Try.ntmps72
      go_wp2_with (first | (go_at_call 58; refine (rref_any H.out _ _).mono ?_; rintro e w1 ⟨rfl, hw1⟩; rw [hw1, hr]; clear hw1))
      go_ret
      rw [HF.out]
      exact ⟨rfl, H.out, Fr.refl _ _⟩
  · have HF : Hid (rRestart d node = (d, rRef d node false)) := by show rRestart d node = _; rw [rRestart, if_pos hr]
    rcases (rRef_cases d node false).resolve_left hr with hr2 | hr2
    all_goals
      clear h hr
      go_enter Try.func72, Try.ntmps72
      go_wp2_with (first | (go_at_call 58; refine (rref_any H.out _ _).mono ?_; rintro e w1 ⟨rfl, hw1⟩; rw [hw1, hr2]; clear hw1))
      go_ret
      rw [HF.out, hr2]
      exact ⟨rfl, H.out, Fr.refl _ _⟩

set_option maxHeartbeats 800000 in
theorem rremind_nil (w : World) :
    Calls Try.prog 74 #[.pointer none] w fun e w' => e = .returned (.int .i64 1) ∧ w' = w := by
  go_enter Try.func74, Try.ntmps74
  go_wp2
  go_ret
  exact ⟨rfl, rfl⟩

set_option maxHeartbeats 1600000 in
theorem rremind_any (h : RRep w S b d ev uv) (hok : ROk d) :
    Calls Try.prog 74 #[.pointer (some ⟨b, 0, none⟩)] w fun e w' =>
      e = .returned (.int .i64 (rRemind d).2) ∧ (∃ uv', RRep w' (Ext S w) b (rRemind d).1 ev uv') ∧ Fr S w w' := by
  have c75 := h.cEras
  have c76 := h.cAct
  have hb := h.lt
  have h40 := hok.e40
  have h1 := hok.e1
  have hown := h.eras
  obtain ⟨ao, cap, hev, _, _, hpos⟩ := ownsRow_shape h.eras
  obtain ⟨g, rfl⟩ := hpos (by omega)
  rw [hev] at c75 hown
  obtain ⟨q, hq⟩ : ∃ q, d.eras.length = q + 1 := ⟨d.eras.length - 1, by omega⟩
  have hql : q < d.eras.length := by omega
  obtain ⟨_, cl, _⟩ := era_cells hown q d.eras[q] (by simp [hql])
  have H : Hid (RRep w S b d ev uv) := h
  have hway := hok.way
  have HE : Hid (d.era (d.eras.length : Int) = d.eras[q]) := by
    show d.era (d.eras.length : Int) = _
    have e1 : ((d.eras.length : Int) - 1).toNat = q := by omega
    rw [Wd.era, e1]; simp [hql]
  have hwr : IntKind.i64.wrap ((d.eras.length : Int) - 1) = (q : Int) := by rw [wrap_small _ (by omega) (by omega)]; omega
  have hqi0 : (0 : Int) ≤ (q : Int) := by omega
  have hqi1 : (q : Int) < (d.eras.length : Int) := by omega
  clear h hok hown hev hpos
  generalize hld : d.eras[q].leader = ld at cl
  have HL : Hid ((d.era (d.eras.length : Int)).leader = ld) := by show (d.era (d.eras.length : Int)).leader = ld; rw [HE.out]; exact hld
  clear hld HE hq
  by_cases ha : d.active = (d.eras.length : Int)
  · have ba : (d.active == (d.eras.length : Int)) = true := by simp [ha]
    have HF : Hid (rRemind d = (d, 12)) := by show rRemind d = _; rw [rRemind, if_pos ha]
    go_enter Try.func74, Try.ntmps74
    go_wp2
    go_ret
    rw [HF.out]
    exact ⟨rfl, ⟨uv, H.out.mono fun _ _ e => Or.inl e⟩, Fr.refl _ _⟩
  · have ba : (d.active == (d.eras.length : Int)) = false := by simp [ha]
    have HF : Hid (rRemind d = (rSends d { kind := 1, frm := -1, to := (d.era d.eras.length).leader, epoch := d.eras.length, n := 0, recs := [] }, 0)) := by show rRemind d = _; rw [rRemind, if_neg ha]
    clear ha
    go_enter Try.func74, Try.ntmps74
    go_wp2_with fail
    refine (rsends_any H.out hway { kind := 1, frm := -1, to := ld, epoch := d.eras.length, n := 0, recs := [] } _ rfl).mono ?_
    rintro e w3 ⟨rfl, ⟨uv3, hR3⟩, hF3⟩
    have HR3 : Hid _ := hR3
    have HF3 : Hid _ := hF3
    clear hR3 hF3
    go_wp2
    go_ret
    rw [HF.out, HL.out]
    exact ⟨rfl, ⟨uv3, HR3.out⟩, HF3.out⟩

def confVal (e m l a : Int) : Value := .agg #[.int .i64 e, .int .i64 m, .int .i64 l, .int .i64 a]
set_option maxHeartbeats 800000 in
theorem rconfig_nil (w : World) :
    Calls Try.prog 76 #[.pointer none] w fun e w' => e = .returned (.tuple #[confVal 0 0 0 0, .int .i64 1]) ∧ Below w.heap.size w w' := by
  unfold confVal
  go_enter Try.func76, Try.ntmps76
  go_wp2
  exact bodyPost_ret (v := .tuple #[.agg #[.int .i64 0, .int .i64 0, .int .i64 0, .int .i64 0], .int .i64 1]) (by simp [results, Try.results76, go_sem, *]) rfl ⟨rfl, (Below.refl _ _).alloc (Nat.le_refl _) _⟩
set_option maxHeartbeats 1600000 in
set_option maxRecDepth 100000 in
theorem rconfig_any (h : RRep w S b d ev uv) (hok : ROk d) :
    Calls Try.prog 76 #[.pointer (some ⟨b, 0, none⟩)] w fun e w' =>
      e = .returned (.tuple #[confVal d.eras.length (d.era d.eras.length).members (d.era d.eras.length).leader d.active, .int .i64 0]) ∧ Below w.heap.size w w' := by
  have c75 := h.cEras
  have c76 := h.cAct
  have hb := h.lt
  have h40 := hok.e40
  have h1 := hok.e1
  have hown := h.eras
  obtain ⟨ao, cap, hev, _, _, hpos⟩ := ownsRow_shape h.eras
  obtain ⟨g, rfl⟩ := hpos (by omega)
  rw [hev] at c75 hown
  have hgl := ownsRow_lt hown (g := g) rfl
  obtain ⟨q, hq⟩ : ∃ q, d.eras.length = q + 1 := ⟨d.eras.length - 1, by omega⟩
  have hql : q < d.eras.length := by omega
  obtain ⟨cm, cl, _⟩ := era_cells hown q d.eras[q] (by simp [hql])
  have HE : Hid (d.era (d.eras.length : Int) = d.eras[q]) := by
    show d.era (d.eras.length : Int) = _
    have e1 : ((d.eras.length : Int) - 1).toNat = q := by omega
    rw [Wd.era, e1]; simp [hql]
  have hwr : IntKind.i64.wrap ((d.eras.length : Int) - 1) = (q : Int) := by rw [wrap_small _ (by omega) (by omega)]; omega
  have hqi0 : (0 : Int) ≤ (q : Int) := by omega
  have hqi1 : (q : Int) < (d.eras.length : Int) := by omega
  clear h hok hown hev hpos
  rw [HE.out]
  clear HE hq
  generalize d.eras[q].leader = ld at cl ⊢
  generalize d.eras[q].members = mm at cm ⊢
  unfold confVal
  have nb : ¬ b = w.heap.size := by omega
  have ng : ¬ g = w.heap.size := by omega
  go_enter Try.func76, Try.ntmps76
  go_wp2_with fail
  refine wp_genR (fun W => Below w.heap.size w W ∧ W.heap[w.heap.size]? = some (.cells #[.int .i64 0, .int .i64 0, .int .i64 0, .int .i64 0] 124)) ⟨(Below.refl _ _).alloc (Nat.le_refl _) _, heap_alloc_new w _⟩ ?_
  rintro W ⟨hWB, hWZ⟩
  replace c75 := (hWB.cell (p := ⟨b, 75, none⟩) hb).trans c75
  replace c76 := (hWB.cell (p := ⟨b, 76, none⟩) hb).trans c76
  replace cm := (hWB.cell (p := ⟨g, q * 3, none⟩) hgl).trans cm
  replace cl := (hWB.cell (p := ⟨g, q * 3 + 1, none⟩) hgl).trans cl
  have HWB : Hid (Below w.heap.size w W) := hWB
  have z : ∀ j, W.cell? ⟨w.heap.size, j, none⟩ = (#[.int .i64 0, .int .i64 0, .int .i64 0, .int .i64 0] : Array Value)[j]? := fun j => cell_of_row _ _ _ _ _ _ hWZ
  have z0 := z 0; have z1 := z 1; have z2 := z 2; have z3 := z 3
  simp at z0 z1 z2 z3
  have y : ∀ j, W.frozen? ⟨w.heap.size, j, none⟩ = false := fun j => by simp [World.frozen?, hWZ]
  have y0 := y 0; have y1 := y 1; have y2 := y 2; have y3 := y 3
  clear z y hWB hWZ hb hgl
  generalize hNq : w.heap.size = N at *
  have HN : Hid (N = w.heap.size) := hNq.symm
  clear hNq
  have fb : ∀ (V : World) (o : Nat) (a : Value) (j : Nat), (V.setCell ⟨N, o, none⟩ a).cell? ⟨b, j, none⟩ = V.cell? ⟨b, j, none⟩ := fun V o a j => World.cell?_of_block (Below.heap_setCell V ⟨N, o, none⟩ a b nb)
  have fg : ∀ (V : World) (o : Nat) (a : Value) (j : Nat), (V.setCell ⟨N, o, none⟩ a).cell? ⟨g, j, none⟩ = V.cell? ⟨g, j, none⟩ := fun V o a j => World.cell?_of_block (Below.heap_setCell V ⟨N, o, none⟩ a g ng)
  have Fb : Hid (∀ (V : World) (o : Nat) (a : Value) (j : Nat), (V.setCell ⟨N, o, none⟩ a).cell? ⟨b, j, none⟩ = V.cell? ⟨b, j, none⟩) := fb
  have Fg : Hid (∀ (V : World) (o : Nat) (a : Value) (j : Nat), (V.setCell ⟨N, o, none⟩ a).cell? ⟨g, j, none⟩ = V.cell? ⟨g, j, none⟩) := fg
  clear fb fg
  go_region_held3 (fun w' => w'.cell? ⟨b, 75, none⟩ = some (.slice (some ⟨g, 0, none⟩) d.eras.length cap) ∧ w'.cell? ⟨b, 76, none⟩ = some (.int .i64 d.active) ∧ w'.cell? ⟨g, q * 3, none⟩ = some (.int .i64 mm) ∧ w'.cell? ⟨g, q * 3 + 1, none⟩ = some (.int .i64 ld))
    (first
      | (simp only [World.cell?_drew, c75, c76, cm, cl, and_self]; done)
      | (simp only [World.cell?_drew, Fb.out, Fg.out, c75, c76, cm, cl, and_self]; done))
    (fail)
  go_wp2
  have HB3 : Below N w ((((W.setCell ⟨N, 0, none⟩ (.int .i64 d.eras.length)).setCell ⟨N, 1, none⟩ (.int .i64 mm)).setCell ⟨N, 2, none⟩ (.int .i64 ld)).setCell ⟨N, 3, none⟩ (.int .i64 d.active)).drew :=
    ((((HWB.out.setCell (Nat.le_refl _) _).setCell (Nat.le_refl _) _).setCell (Nat.le_refl _) _).setCell (Nat.le_refl _) _).drew
  exact bodyPost_ret (v := .tuple #[.agg #[.int .i64 d.eras.length, .int .i64 mm, .int .i64 ld, .int .i64 d.active], .int .i64 0]) (by simp [results, Try.results76, go_sem, *]) rfl ⟨rfl, HB3.mono (Nat.le_of_eq HN.out.symm)⟩
end
end Go.Proofs.Ythpfgmdffendoaa
