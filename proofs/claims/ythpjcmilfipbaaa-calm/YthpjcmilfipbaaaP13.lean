/- My own text: several texts in one. -/
import Derived.Test.YthpjcmilfipbaaaP10
namespace Go.Proofs.Ythpjcmilfipbaaa
set_option linter.unusedVariables false
set_option linter.unusedSimpArgs false
open Go.RowKit
def newNd (j i : Nat) : Nd := { up := decide (i < j), follows := if i < j ∧ i < 3 then 1 else 0, given := if i < j ∧ i < 3 then 1 else 0, role := 0, log := [], has := fun _ => false, known := fun _ => 0 }
def newAt (j : Nat) : Clu := { nodes := newNd j, epochs := [⟨7, 0, 0⟩], active := 1, ways := [] }
def newE : Clu := { nodes := newNd 0, epochs := [], active := 1, ways := [] }
def newC : Clu := { newAt 5 with nodes := upd (newNd 5) 0 { newNd 5 0 with role := 3 } }
def nilS : Value := .slice none 0 0
theorem newNd_step (j : Nat) : upd (newNd j) j { newNd j j with up := true } = fun i => { newNd (j + 1) i with follows := (newNd j i).follows, given := (newNd j i).given } := by
  funext i
  unfold upd
  by_cases h : i = j
  · subst h; simp [newNd]
  · rw [if_neg h]
    have : (i < j + 1) ↔ i < j := by omega
    simp [newNd, this]
theorem newNd_low (j : Nat) (hj : j < 3) : upd (upd (upd (newNd j) j { newNd j j with up := true }) j { (upd (newNd j) j { newNd j j with up := true }) j with follows := 1 }) j
    { (upd (upd (newNd j) j { newNd j j with up := true }) j { (upd (newNd j) j { newNd j j with up := true }) j with follows := 1 }) j with given := 1 } = newNd (j + 1) := by
  funext i
  by_cases h : i = j
  · subst h; simp [newNd, upd, hj]
  · have : (i < j + 1) ↔ i < j := by omega
    simp [newNd, upd, h, this]
theorem newNd_high (j : Nat) (hj : ¬ j < 3) : upd (newNd j) j { newNd j j with up := true } = newNd (j + 1) := by
  funext i
  by_cases h : i = j
  · subst h; simp [newNd, upd, hj]
  · have : (i < j + 1) ↔ i < j := by omega
    simp [newNd, upd, h, this]
section
variable {w : World} {S : Nat → Prop} {b : Nat} {c : Clu} {lv : Nat → Value} {ev uv : Value} {mv : List (Msg × Value)}
theorem Rep.setFol (h : Rep w S b c lv ev uv mv) (k : Nat) (hk : k < 5) (x : Int) :
    Rep (w.setCell ⟨b, k * 15 + 1, none⟩ (.int .i64 x)) S b { c with nodes := upd c.nodes k { c.nodes k with follows := x } } lv ev uv mv ∧ Fr S w (w.setCell ⟨b, k * 15 + 1, none⟩ (.int .i64 x)) :=
  h.setOwn _ _ _ c.active (fun i hi => upd_log (n := c.nodes) (k := k) (by rfl) i) fun cs hcs =>
    hcs.putNd k hk 1 (by omega) (by omega) _ _ (if_neg (by omega)) (if_pos rfl) (if_neg (by omega)) (if_neg (by omega)) (fun j hj => if_neg (by omega)) (fun j hj => if_neg (by omega))
end
theorem Rep.begin {W : World} {S : Nat → Prop} {N : Nat} {cs : Array Value} (hb : W.heap[N]? = some (.cells cs 94 (0, 0))) (hc : Cells cs (newNd 0) 1 (fun _ => nilS) nilS nilS) (hS : S N) : Rep W S N newE (fun _ => nilS) nilS nilS [] :=
  { blk := ⟨_, hb, hc⟩, inb := hS, logs := fun k hk => World.ownsRow_nil _ _ _ _, logS := fun k g hk hg => by simp [nilS, Value.ownBlock] at hg
    logD := fun k j g _ _ _ hg => by simp [nilS, Value.ownBlock] at hg, eps := World.ownsRow_nil _ _ _ _, epS := fun g hg => by simp [nilS, Value.ownBlock] at hg
    way := World.ownsRow_nil _ _ _ _, wayS := fun g hg => by simp [nilS, Value.ownBlock] at hg, mvs := rfl, recs := fun x hx => by cases hx
    recS := fun x g hx => (by cases hx), recD := fun x k g hx => (by cases hx) }
/-- New's own blocks but for the first epoch's. -/
def NewS (N : Nat) : Nat → Prop := fun k => N ≤ k ∧ k ≠ N + 1
def firstCs : Array Value := #[.int .i64 7, .int .i64 0, .int .i64 0]
set_option maxHeartbeats 3200000 in
set_option maxRecDepth 100000 in
theorem new_any (w : World) :
    Calls Try.prog 36 #[] w fun e w' => e = .returned (.pointer (some ⟨w.heap.size, 0, none⟩)) ∧ (∃ ev, Rep w' (fun k => w.heap.size ≤ k) w.heap.size newC (fun _ => nilS) ev nilS []) ∧ Below w.heap.size w w' := by
  obtain ⟨i0, hi0, hz0, hz1, hz2⟩ := info_parts infoEp
  go_enter Try.func36, Try.ntmps36
  go_wp2_with fail
  refine wp_genP (fun W => W.heap.size = w.heap.size + 2 ∧ (∃ cs, W.heap[w.heap.size]? = some (.cells cs 94 (0, 0)) ∧ Cells cs (newNd 0) 1 (fun _ => nilS) nilS nilS) ∧
      W.heap[w.heap.size + 1]? = some (.cells firstCs 106 (0, 0)) ∧ Below w.heap.size w W) ?_ ?_
  · refine ⟨by simp, ⟨_, heap_alloc2_old w _ _, ?_⟩, heap_alloc2_new w _ _, ((Below.refl _ _).alloc (Nat.le_refl _) _).alloc (by simp) _⟩
    constructor
    · rfl
    all_goals first | rfl | (intro k hk; match k, hk with | 0, _ => rfl | 1, _ => rfl | 2, _ => rfl | 3, _ => rfl | 4, _ => rfl) | (intro k j hk hj; match k, hk, j, hj with | 0, _, 0, _ | 0, _, 1, _ | 0, _, 2, _ | 0, _, 3, _ | 0, _, 4, _ | 1, _, 0, _ | 1, _, 1, _ | 1, _, 2, _ | 1, _, 3, _ | 1, _, 4, _ | 2, _, 0, _ | 2, _, 1, _ | 2, _, 2, _ | 2, _, 3, _ | 2, _, 4, _ | 3, _, 0, _ | 3, _, 1, _ | 3, _, 2, _ | 3, _, 3, _ | 3, _, 4, _ | 4, _, 0, _ | 4, _, 1, _ | 4, _, 2, _ | 4, _, 3, _ | 4, _, 4, _ => rfl)
  rintro W ⟨hWs, ⟨cs, hWb, hWc⟩, hWe, hWB⟩
  have hRW : Rep W (NewS w.heap.size) w.heap.size newE (fun _ => nilS) nilS nilS [] := Rep.begin hWb hWc ⟨Nat.le_refl _, by omega⟩
  have HRW := hidP hRW
  have HWe := hidP hWe
  have HWB := hidP hWB
  have c75 : W.cell? ⟨w.heap.size, 75, none⟩ = some (.slice none 0 0) := hRW.cEps
  have f75 := hRW.free 75
  have e0 : W.cell? ⟨w.heap.size + 1, 0, none⟩ = some (.int .i64 7) := (cell_of_row _ _ _ _ _ _ hWe).trans rfl
  have e1 : W.cell? ⟨w.heap.size + 1, 1, none⟩ = some (.int .i64 0) := (cell_of_row _ _ _ _ _ _ hWe).trans rfl
  have e2 : W.cell? ⟨w.heap.size + 1, 2, none⟩ = some (.int .i64 0) := (cell_of_row _ _ _ _ _ _ hWe).trans rfl
  clear hWb hWc hWe hWB hRW
  have HWs := hidP hWs
  have hlt0 : w.heap.size < W.heap.size := by omega
  have hlt1 : w.heap.size + 1 < W.heap.size := by omega
  clear hWs
  have hnews := epRow_one ⟨7, 0, 0⟩
  go_region_law ((refine step_append_lies _ (by rfl) _ _ _ (by rfl) 0 106 i0 _ 3 24 Try.underlying91 hi0 hz0 hz1 hz2 rfl (by omega) (.slice none 0 0) 0 [] (by rfl) (World.ownsRow_nil _ _ _ _) ⟨W.heap.size, 0, none⟩ 1 1 (epRow ⟨7, 0, 0⟩) (by rfl) (by rfl) (World.news_of_block (cs := (epRow ⟨7, 0, 0⟩).toArray) (t := 106) (fr := (0, 0)) (heap_alloc_new W _)) hnews (by omega) (by unfold maxLen; omega) (by omega) (by omega) (W.heap.size + 1) (by simp) ?_; intro gg cap' w1 hown1 hgrow hat hlt2; have hc51 : w1.cell? ⟨w.heap.size, 75, none⟩ = some (.slice none 0 0) := (by rw [hgrow.cell_far _ (by simp; omega) (by simp [Value.ownBlock])]; simp [World.cell?_alloc_some, c75]); have hf51 : w1.frozen? ⟨w.heap.size, 75, none⟩ = false := (by rw [hgrow.frozen_far _ (by simp; omega) (by simp [Value.ownBlock])]; simp [frozen?_alloc_cells, f75])))
  all_goals
    have R := HRW.out.epoched (W := (W.alloc _).drew) ((Fr.alloc _ _ _).then (Fr.drew _ _)) ⟨7, 0, 0⟩ (.slice (some ⟨gg, 0, none⟩) (0 + 1) cap') (0 + 1) gg rfl rfl hown1 hgrow (orR hat fun e => by omega)
    have R1 : Rep (w1.setCell ⟨w.heap.size, 75, none⟩ (.slice (some ⟨gg, 0, none⟩) (0 + 1) cap')) (NewS w.heap.size) w.heap.size (newAt 0) (fun _ => nilS) (.slice (some ⟨gg, 0, none⟩) (0 + 1) cap') nilS [] := R.1.mono fun q _ e => e.elim id fun e => ⟨by omega, by omega⟩
    have E1 : (w1.setCell ⟨w.heap.size, 75, none⟩ (.slice (some ⟨gg, 0, none⟩) (0 + 1) cap')).heap[w.heap.size + 1]? = some (.cells firstCs 106 (0, 0)) := (R.2.block _ hlt1 (fun e => e.2 rfl)).trans HWe.out
    have B1 : Below w.heap.size w (w1.setCell ⟨w.heap.size, 75, none⟩ (.slice (some ⟨gg, 0, none⟩) (0 + 1) cap')) := HWB.out.trans (R.2.toBelow (Nat.le_of_lt hlt0) fun q e => e.1)
    clear R hown1 hgrow hat hc51 hf51 hlt2 hnews c75 f75 e0 e1 e2 hlt0 hlt1 HWe HWB HRW
    generalize w1.setCell _ _ = W2 at R1 E1 B1 ⊢
    generalize (Value.slice (some ⟨gg, 0, none⟩) (0 + 1) cap') = evv at R1
    have HR1 := hidP R1
    have HE1 := hidP E1
    have HB1 := hidP B1
    clear R1 E1 B1 HWs
    go_wp2
    go_loopw [17] (fun t wr => ∃ j : Nat, j ≤ 5 ∧ t = .int .i64 j ∧ Rep wr (NewS w.heap.size) w.heap.size (newAt j) (fun _ => nilS) evv nilS [] ∧ wr.heap[w.heap.size + 1]? = some (.cells firstCs 106 (0, 0)) ∧ Below w.heap.size w wr) (fun t _ => 5 - (intOf t).toNat)
    case atStart => exact ⟨0, Nat.zero_le _, rfl, HR1.out, HE1.out, HB1.out⟩
    case round =>
      obtain ⟨j, hj5, rfl, hR, hE, hB⟩ := hrel
      clear HR1 HE1 HB1
      have HR := hidP hR
      have HE := hidP hE
      have HB := hidP hB
      have hw1 : w.heap.size < wr.heap.size := hR.lt
      have hw2 : w.heap.size + 1 < wr.heap.size := (Array.getElem?_eq_some_iff.1 hE).1
      by_cases hj : j < 5
      · have hj0 : (0 : Int) ≤ (j : Int) := by omega
        have hj1 : (j : Int) < 5 := by omega
        have s1 := hR.setUp j hj true
        have s2 := s1.1.setFol j hj 1
        have s3 := s2.1.setGiv j hj 1
        have c0 := hR.cUp j hj
        have c1 := hR.cFol j hj
        have c2 := hR.cGiv j hj
        have fz := hR.free
        have f0 := fz (j * 15); have f1 := fz (j * 15 + 1); have f2 := fz (j * 15 + 2)
        have cm : wr.cell? ⟨w.heap.size + 1, 0, none⟩ = some (.int .i64 7) := (cell_of_row _ _ _ _ _ _ hE).trans rfl
        have ne : ¬ w.heap.size + 1 = w.heap.size := by omega
        have ne2 : ¬ w.heap.size = w.heap.size + 1 := by omega
        have HA := hidP (fun (W : World) => isAmong_any 7 (by omega) (by omega) (j : Int) W)
        by_cases hj3 : j < 3
        · have hn := newNd_low j hj3
          have HS1 : Hid (Rep _ (NewS w.heap.size) w.heap.size (newAt (j + 1)) (fun _ => nilS) evv nilS []) := show Rep _ (NewS w.heap.size) w.heap.size (newAt (j + 1)) (fun _ => nilS) evv nilS [] from by unfold newAt; rw [← hn]; exact s3.1
          have HF := hidP ((s1.2.then s2.2).then s3.2)
          have ha : amongB 7 (j : Int) = true := by
            match j, hj3 with
            | 0, _ => rfl
            | 1, _ => rfl
            | 2, _ => rfl
          rw [ha] at HA
          clear hR hE hB s1 s2 s3 fz hn ha
          go_wp2_with (first | (go_at_call 58; refine (HA.out _).mono ?_; rintro e w' ⟨rfl, hw1⟩; rw [hw1]; clear hw1))
          go_roundw
          case rel => exact ⟨j + 1, by omega, by go_num, HS1.out, (HF.out.block _ hw2 (fun e => e.2 rfl)).trans HE.out, HB.out.trans (HF.out.toBelow (Nat.le_of_lt hw1) fun q e => e.1)⟩
          case measure => simp [intOf]; omega
        · have hn := newNd_high j hj3
          have HS1 : Hid (Rep _ (NewS w.heap.size) w.heap.size (newAt (j + 1)) (fun _ => nilS) evv nilS []) := show Rep _ (NewS w.heap.size) w.heap.size (newAt (j + 1)) (fun _ => nilS) evv nilS [] from by unfold newAt; rw [← hn]; exact s1.1
          have HF := hidP s1.2
          have ha : amongB 7 (j : Int) = false := by
            match j, hj, hj3 with
            | 3, _, _ => rfl
            | 4, _, _ => rfl
            | 0, _, h => omega
            | 1, _, h => omega
            | 2, _, h => omega
          rw [ha] at HA
          clear hR hE hB s1 s2 s3 fz hn ha
          go_wp2_with (first | (go_at_call 58; refine (HA.out _).mono ?_; rintro e w' ⟨rfl, hw1⟩; rw [hw1]; clear hw1))
          go_roundw
          case rel => exact ⟨j + 1, by omega, by go_num, HS1.out, (HF.out.block _ hw2 (fun e => e.2 rfl)).trans HE.out, HB.out.trans (HF.out.toBelow (Nat.le_of_lt hw1) fun q e => e.1)⟩
          case measure => simp [intOf]; omega
      · have : j = 5 := by omega
        subst this
        have f3 := hR.free (0 * 15 + 3)
        have c3 := hR.cRol 0 (by omega)
        have cl : wr.cell? ⟨w.heap.size + 1, 1, none⟩ = some (.int .i64 0) := (cell_of_row _ _ _ _ _ _ hE).trans rfl
        have s1 := hR.setRol 0 (by omega) 3
        have HS1 := hidP s1.1
        have HF := hidP s1.2
        simp only [Nat.zero_mul, Nat.zero_add] at f3 c3
        clear hR hE hB s1
        have HS2 : Hid (Rep (wr.setCell ⟨w.heap.size, 3, none⟩ (.int .i64 3)) (NewS w.heap.size) w.heap.size newC (fun _ => nilS) evv nilS []) := HS1.out
        have HF2 : Hid (Fr (NewS w.heap.size) wr (wr.setCell ⟨w.heap.size, 3, none⟩ (.int .i64 3))) := HF.out
        clear HS1 HF
        go_wp2_with fail
        go_region
        go_wp2
        go_ret
        exact ⟨rfl, ⟨evv, HS2.out.drew.mono fun q _ e => e.1⟩, HB.out.trans ((HF2.out.then (Fr.drew _ _)).toBelow (Nat.le_of_lt hw1) fun q e => e.1)⟩
end Go.Proofs.Ythpjcmilfipbaaa
