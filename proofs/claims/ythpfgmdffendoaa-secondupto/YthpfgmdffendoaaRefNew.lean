/- My own text. Walks of package ledgerref: New. -/
import Derived.Test.YthpfgmdffendoaaRefReconf
namespace Go.Proofs.Ythpfgmdffendoaa
set_option linter.unusedVariables false
set_option linter.unusedSimpArgs false
open Go.RowKit
def nilR : Value := .slice none 0 0
def rNewMem (j i : Nat) : Mem := { up := decide (i < j), follows := if i < j ∧ i < 3 then 1 else 0, given := if i < j ∧ i < 3 then 1 else 0, role := 0, log := [], knows := fun _ => 0, has := fun _ => false }
def rNewTo (j : Nat) : Wd := { mem := rNewMem j, eras := [⟨7, 0, 0⟩], active := 1, way := [] }
def rNew : Wd := { mem := fun i => { rNewMem 5 i with role := if i = 0 then 3 else 0 }, eras := [⟨7, 0, 0⟩], active := 1, way := [] }
theorem mem_ext {a b : Mem} (h1 : a.up = b.up) (h2 : a.follows = b.follows) (h3 : a.given = b.given) (h4 : a.role = b.role) (h5 : a.log = b.log) (h6 : a.knows = b.knows) (h7 : a.has = b.has) : a = b := by
  cases a; cases b; simp_all
section
variable {w : World} {S : Nat → Prop} {b : Nat} {d : Wd} {ev uv : Value}
theorem RRep.newStep1 {j : Nat} (h : RRep w S b (rNewTo j) ev uv) (hj : j < 3) :
    RRep (((w.setCell ⟨b, j * 15, none⟩ (.bool true)).setCell ⟨b, j * 15 + 1, none⟩ (.int .i64 1)).setCell ⟨b, j * 15 + 2, none⟩ (.int .i64 1)) S b (rNewTo (j + 1)) ev uv ∧
    Fr S w (((w.setCell ⟨b, j * 15, none⟩ (.bool true)).setCell ⟨b, j * 15 + 1, none⟩ (.int .i64 1)).setCell ⟨b, j * 15 + 2, none⟩ (.int .i64 1)) := by
  have q1 := h.setCell (j * 15) (.bool true) ((rNewTo j).put j { (rNewTo j).mem j with up := true }) rfl rfl (fun cs hcs => hcs.setUp j (by omega) true)
  have q2 := q1.1.setCell (j * 15 + 1) (.int .i64 1) ((rNewTo j).put j { (rNewTo j).mem j with up := true, follows := 1 }) rfl rfl (fun cs hcs => by
    have := hcs.setFol j (by omega) 1
    have e2 : (((rNewTo j).put j { (rNewTo j).mem j with up := true }).put j { ((rNewTo j).put j { (rNewTo j).mem j with up := true }).mem j with follows := 1 }).mem = ((rNewTo j).put j { (rNewTo j).mem j with up := true, follows := 1 }).mem := by
      funext i; simp only [put_mem]; split <;> simp_all
    rw [e2] at this; exact this)
  have q3 := q2.1.setCell (j * 15 + 2) (.int .i64 1) (rNewTo (j + 1)) rfl rfl (fun cs hcs => by
    have := hcs.setGiv j (by omega) 1
    have e2 : (((rNewTo j).put j { (rNewTo j).mem j with up := true, follows := 1 }).put j { ((rNewTo j).put j { (rNewTo j).mem j with up := true, follows := 1 }).mem j with given := 1 }).mem = (rNewTo (j + 1)).mem := by
      funext i
      simp only [put_mem]
      by_cases e : i = j
      · subst e
        apply mem_ext <;> simp [rNewTo, rNewMem, hj]
      · have e3 : (i < j + 1 ∧ i < 3) ↔ (i < j ∧ i < 3) := by omega
        have e4 : i < j + 1 ↔ i < j := by omega
        apply mem_ext <;> simp [e, rNewTo, rNewMem, e3, e4]
    rw [e2] at this; exact this)
  exact ⟨q3.1, (q1.2.then q2.2).then q3.2⟩
theorem RRep.newStep2 {j : Nat} (h : RRep w S b (rNewTo j) ev uv) (hj5 : j < 5) (hj : ¬ j < 3) :
    RRep (w.setCell ⟨b, j * 15, none⟩ (.bool true)) S b (rNewTo (j + 1)) ev uv ∧ Fr S w (w.setCell ⟨b, j * 15, none⟩ (.bool true)) :=
  h.setCell (j * 15) (.bool true) (rNewTo (j + 1)) rfl rfl (fun cs hcs => by
    have := hcs.setUp j (by omega) true
    have e2 : ((rNewTo j).put j { (rNewTo j).mem j with up := true }).mem = (rNewTo (j + 1)).mem := by
      funext i
      simp only [put_mem]
      by_cases e : i = j
      · subst e
        apply mem_ext <;> simp [rNewTo, rNewMem, hj]
      · have e3 : (i < j + 1 ∧ i < 3) ↔ (i < j ∧ i < 3) := by omega
        have e4 : i < j + 1 ↔ i < j := by omega
        apply mem_ext <;> simp [e, rNewTo, rNewMem, e3, e4]
    rw [e2] at this; exact this)
theorem RRep.newLast (h : RRep w S b (rNewTo 5) ev uv) : RRep (w.setCell ⟨b, 3, none⟩ (.int .i64 3)) S b rNew ev uv ∧ Fr S w (w.setCell ⟨b, 3, none⟩ (.int .i64 3)) :=
  h.setCell 3 (.int .i64 3) rNew rfl rfl (fun cs hcs => by
    have := hcs.setRol 0 (by omega) 3
    have e2 : ((rNewTo 5).put 0 { (rNewTo 5).mem 0 with role := 3 }).mem = rNew.mem := by
      funext i
      simp only [put_mem]
      by_cases e : i = 0
      · subst e
        apply mem_ext <;> simp [rNew, rNewTo, rNewMem]
      · apply mem_ext <;> simp [e, rNew, rNewTo, rNewMem]
    rw [e2] at this; exact this)
set_option maxRecDepth 100000 in
theorem rnew_start (w : World) : RRep (w.alloc (.cells (Try.zeroCells105.setIfInBounds 76 (.int .i64 1)) 105)) (fun k => w.heap.size ≤ k) w.heap.size { rNewTo 0 with eras := [] } nilR nilR := by
  refine { blk := ⟨_, heap_alloc_new w _, ?_⟩, inb := Nat.le_refl _, eras := World.ownsRow_nil _ _ _ _, eraS := fun g hg => by simp [nilR, Value.ownBlock] at hg, way := World.ownsRow_nil _ _ _ _, wayS := fun g hg => by simp [nilR, Value.ownBlock] at hg }
  constructor
  · rfl
  all_goals first | rfl | (intro k hk; match k, hk with | 0, _ => rfl | 1, _ => rfl | 2, _ => rfl | 3, _ => rfl | 4, _ => rfl) | (intro k j hk hj; match k, hk, j, hj with | 0, _, 0, _ | 0, _, 1, _ | 0, _, 2, _ | 0, _, 3, _ | 0, _, 4, _ | 1, _, 0, _ | 1, _, 1, _ | 1, _, 2, _ | 1, _, 3, _ | 1, _, 4, _ | 2, _, 0, _ | 2, _, 1, _ | 2, _, 2, _ | 2, _, 3, _ | 2, _, 4, _ | 3, _, 0, _ | 3, _, 1, _ | 3, _, 2, _ | 3, _, 3, _ | 3, _, 4, _ | 4, _, 0, _ | 4, _, 1, _ | 4, _, 2, _ | 4, _, 3, _ | 4, _, 4, _ => rfl)
set_option maxHeartbeats 3200000 in
set_option maxRecDepth 100000 in
theorem rnew_any (w : World) :
    Calls Try.prog 26 #[] w fun e w' => e = .returned (.pointer (some ⟨w.heap.size, 0, none⟩)) ∧ (∃ ev, RRep w' (fun k => w.heap.size ≤ k) w.heap.size rNew ev nilR) ∧ Below w.heap.size w w' := by
  obtain ⟨i0, hi0, hz0, hz1, hz2⟩ := info_parts infoEra
  have HS0 : Hid (RRep (w.alloc (.cells (Try.zeroCells105.setIfInBounds 76 (.int .i64 1)) 105)) (fun k => w.heap.size ≤ k) w.heap.size { rNewTo 0 with eras := [] } nilR nilR) := rnew_start w
  have HS1 : Hid (RRep ((w.alloc (.cells (Try.zeroCells105.setIfInBounds 76 (.int .i64 1)) 105)).alloc (.cells #[.int .i64 7, .int .i64 0, .int .i64 0] 107)) (fun k => w.heap.size ≤ k) w.heap.size { rNewTo 0 with eras := [] } nilR nilR) := HS0.out.alloc _
  have HC0 : Hid ((w.alloc (.cells (Try.zeroCells105.setIfInBounds 76 (.int .i64 1)) 105)).cell? ⟨w.heap.size, 75, none⟩ = some (.slice none 0 0)) := HS0.out.cEras
  have HC : Hid (((w.alloc (.cells (Try.zeroCells105.setIfInBounds 76 (.int .i64 1)) 105)).alloc (.cells #[.int .i64 7, .int .i64 0, .int .i64 0] 107)).cell? ⟨w.heap.size, 75, none⟩ = some (.slice none 0 0)) := HS1.out.cEras
  have HZ : Hid (((w.alloc (.cells (Try.zeroCells105.setIfInBounds 76 (.int .i64 1)) 105)).alloc (.cells #[.int .i64 7, .int .i64 0, .int .i64 0] 107)).frozen? ⟨w.heap.size, 75, none⟩ = false) := HS1.out.free 75
  have hnews : ∀ u ∈ ([.int .i64 7, .int .i64 0, .int .i64 0] : List Value), u.oneCell' = true := by
    intro u hu
    simp only [List.mem_cons, List.not_mem_nil, or_false] at hu
    rcases hu with rfl | rfl | rfl <;> rfl
  go_enter Try.func26, Try.ntmps26
  go_wp2_with (first | (at_builtin; refine wpList_append_lies _ rfl _ _ 102 rfl 0 107 i0 _ 3 24 Try.underlying102 hi0 hz0 hz1 hz2 rfl (by omega) (.slice none 0 0) 0 [] rfl (World.ownsRow_nil _ _ _ _) ⟨w.heap.size + 1, 0, none⟩ 1 1 [.int .i64 7, .int .i64 0, .int .i64 0] rfl rfl (World.news_of_block (cs := #[.int .i64 7, .int .i64 0, .int .i64 0]) (t := 107) (fr := (0, 0)) (heap_alloc2_new w _ _)) hnews (by omega) (by unfold maxLen; omega) (by omega) (by omega) (w.heap.size + 2) (by simp) ?_; intro gg cap' w1 hown1 hgrow hat hlt2; have hc51 : w1.cell? ⟨w.heap.size, 75, none⟩ = some (.slice none 0 0) := (by rw [hgrow.cell_far _ (by simp; omega) (by simp [Value.ownBlock])]; exact HC.out); have hf51 : w1.frozen? ⟨w.heap.size, 75, none⟩ = false := (by rw [hgrow.frozen_far _ (by simp; omega) (by simp [Value.ownBlock])]; exact HZ.out)))
  have R := HS0.out.newEras (W := (w.alloc (.cells (Try.zeroCells105.setIfInBounds 76 (.int .i64 1)) 105)).alloc (.cells #[.int .i64 7, .int .i64 0, .int .i64 0] 107)) (Fr.alloc _ _ _) (.slice (some ⟨gg, 0, none⟩) 1 cap') [(⟨7, 0, 0⟩ : Era)] 1 gg rfl rfl hown1 hgrow (orR hat fun e => by simp at e ⊢; omega)
  clear hown1 hgrow hat hlt2 hc51 hf51 hnews HC HC0 HZ
  generalize w1.setCell _ _ = W2 at R ⊢
  have HR : Hid (RRep W2 (fun k => w.heap.size ≤ k) w.heap.size (rNewTo 0) (.slice (some ⟨gg, 0, none⟩) 1 cap') nilR) := R.1.mono fun k _ e => by
    rcases e with e | e
    · exact e
    · simp at e; omega
  have HB : Hid (Below w.heap.size w W2) := ((Below.refl _ _).alloc (Nat.le_refl _) _).trans (R.2.toBelow (by simp) fun _ e => e)
  clear R HS0 HS1
  go_loopw [2] (fun t wr => ∃ j : Nat, j ≤ 5 ∧ t = .int .i64 j ∧ RRep wr (fun k => w.heap.size ≤ k) w.heap.size (rNewTo j) (.slice (some ⟨gg, 0, none⟩) 1 cap') nilR ∧ Below w.heap.size w wr) (fun t _ => 5 - (intOf t).toNat)
  case atStart => exact ⟨0, Nat.zero_le _, rfl, HR.out, HB.out⟩
  case round =>
    obtain ⟨j, hj5, rfl, hR, hB⟩ := hrel
    clear HR HB
    have HR : Hid (RRep wr (fun k => w.heap.size ≤ k) w.heap.size (rNewTo j) (.slice (some ⟨gg, 0, none⟩) 1 cap') nilR) := hR
    have HB : Hid (Below w.heap.size w wr) := hB
    by_cases hj : j < 5
    · have f0 := hR.free (j * 15); have f1 := hR.free (j * 15 + 1); have f2 := hR.free (j * 15 + 2)
      have c0 := hR.cUp j hj
      have c1 := hR.cFol j hj
      have c2 := hR.cGiv j hj
      have hji0 : (0 : Int) ≤ (j : Int) := by omega
      have hji5 : (j : Int) < 5 := by omega
      clear hR hB
      by_cases hj3 : j < 3
      · have HS : Hid _ := HR.out.newStep1 hj3
        have hji3 : (j : Int) < 3 := by omega
        go_wp2
        go_roundw
        case rel => exact ⟨j + 1, by omega, by go_num, HS.out.1, HB.out.trans (HS.out.2.toBelow HB.out.size fun _ e => e)⟩
        case measure => simp [intOf]; omega
      · have HS : Hid _ := HR.out.newStep2 hj hj3
        have hji3 : (3 : Int) ≤ (j : Int) := by omega
        go_wp2
        go_roundw
        case rel => exact ⟨j + 1, by omega, by go_num, HS.out.1, HB.out.trans (HS.out.2.toBelow HB.out.size fun _ e => e)⟩
        case measure => simp [intOf]; omega
    · have : j = 5 := by omega
      subst this
      have f0 := hR.free 3
      have c0 := hR.cRol 0 (by omega)
      have HS : Hid _ := HR.out.newLast
      clear hR hB
      go_wp2
      go_ret
      exact ⟨rfl, ⟨_, HS.out.1⟩, HB.out.trans (HS.out.2.toBelow HB.out.size fun _ e => e)⟩
end
end Go.Proofs.Ythpfgmdffendoaa
