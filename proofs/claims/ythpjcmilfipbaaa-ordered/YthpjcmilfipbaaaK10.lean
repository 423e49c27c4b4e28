/- My own text: several texts in one. -/
import Derived.Test.YthpjcmilfipbaaaK9
namespace Go.Proofs.Ythpjcmilfipbaaa
set_option linter.unusedVariables false
set_option linter.unusedSimpArgs false
open Go.RowKit
theorem ownsRow_zeroK {w : World} {B : Nat} {e : TypeId} {size : Nat} {v : Value} {n : Nat} {xs : List Value} (h : w.ownsRow B e size v n xs) : w.ownsRow 0 e size v n xs := by
  refine ⟨h.1, ?_⟩
  rcases h.2 with hn | ⟨g, cap, cur, e1, hb, hg, rest⟩
  · exact .inl hn
  · exact .inr ⟨g, cap, cur, e1, Nat.zero_le _, hg, rest⟩
theorem wrap_midK (x : Int) (h0 : -1000000000000 ≤ x) (h1 : x ≤ 1000000000000) : IntKind.i64.wrap x = x := by
  simp only [IntKind.wrap_i64]; omega
/-- How many of each producer's records stood so far. -/
structure LastRep (w : World) (lb : Nat) (l : List Rec) : Prop where
  blk : ∃ cs, w.heap[lb]? = some (.cells cs 87 (0, 0)) ∧ cs.size = 5 ∧ ∀ p, p < 5 → cs[p]? = some (.int .i64 (cnt p l))
theorem cnt_len (p : Int) (l : List Rec) : cnt p l ≤ l.length := by unfold cnt; exact List.length_filter_le _ _
theorem LastRep.lt {w : World} {lb : Nat} {l : List Rec} (h : LastRep w lb l) : lb < w.heap.size := by
  obtain ⟨cs, h1, _⟩ := h.blk
  exact (Array.getElem?_eq_some_iff.1 h1).1
theorem LastRep.step {w : World} {lb q : Nat} {l : List Rec} {r : Rec} (h : LastRep w lb l) (hq : r.p = q) (h5 : q < 5) : LastRep (w.setCell ⟨lb, q, none⟩ (.int .i64 ((cnt q l : Int) + 1))) lb (l ++ [r]) := by
  obtain ⟨cs, h1, h2, h3⟩ := h.blk
  refine ⟨_, heap_setCell_at _ _ _ _ _ _ _ h1, by simp [h2], fun p hp => ?_⟩
  rw [Array.getElem?_setIfInBounds, cnt_append, cnt_one]
  by_cases e : q = p
  · subst e
    rw [if_pos rfl, if_pos (by omega), if_pos hq]
    simp
  · rw [if_neg e, h3 p hp, if_neg (by rw [hq]; omega)]
    simp
theorem LastRep.cells {w : World} {lb : Nat} {l : List Rec} (h : LastRep w lb l) (q : Nat) (h5 : q < 5) : w.cell? ⟨lb, q, none⟩ = some (.int .i64 (cnt q l)) ∧ w.frozen? ⟨lb, q, none⟩ = false := by
  obtain ⟨cs, h1, h2, h3⟩ := h.blk
  exact ⟨(cell_of_row _ _ _ _ _ _ h1).trans (h3 q h5), by simp [World.frozen?, h1]⟩
set_option maxHeartbeats 3200000 in
set_option maxRecDepth 100000 in
theorem kturn_any {w : World} {B : Nat} {v : Value} {l : List Rec} (hl : l.length ≤ 60) (ht : Turn l) (hv : w.ownsRow B 36 3 v l.length (recCells l)) :
    Calls Try.prog 27 #[v] w fun e w' => e = .returned (.bool true) ∧ Below w.heap.size w w' := by
  obtain ⟨ao, cap, rfl, _, _, hp⟩ := ownsRow_shape hv
  have HV := hidK (ownsRow_zeroK hv)
  have HT := hidK ht
  have HP := hidK hp
  clear hv ht hp
  go_enter Try.func27, Try.ntmps27
  go_wp2_with fail
  refine wp_genR (fun W => Below w.heap.size w W ∧ LastRep W w.heap.size []) ⟨(Below.refl _ _).alloc (Nat.le_refl _) _, ⟨_, heap_alloc_new w _, rfl, fun p hp => by
    match p, hp with
    | 0, _ => rfl
    | 1, _ => rfl
    | 2, _ => rfl
    | 3, _ => rfl
    | 4, _ => rfl⟩⟩ ?_
  rintro W ⟨hW1, hW2⟩
  have HW1 := hidK hW1
  have HW2 := hidK hW2
  clear hW1 hW2
  go_loopw [4] (fun t wr => ∃ j : Nat, j ≤ l.length ∧ t = .int .i64 j ∧ Below w.heap.size w wr ∧ LastRep wr w.heap.size (l.take j)) (fun t _ => l.length - (intOf t).toNat)
  case atStart => exact ⟨0, Nat.zero_le _, rfl, HW1.out, by rw [List.take_zero]; exact HW2.out⟩
  case round =>
    obtain ⟨j, hj, rfl, hB, hL⟩ := hrel
    have HB := hidK hB
    have HL := hidK hL
    have hll := hL.lt
    clear hB hL HW1 HW2
    by_cases hjn : j < l.length
    · obtain ⟨g, rfl⟩ := HP.out (by omega)
      obtain ⟨r, hr⟩ : ∃ r, l[j]? = some r := ⟨_, List.getElem?_eq_getElem hjn⟩
      have HTk := hidK (show l.take (j + 1) = l.take j ++ [r] by rw [List.take_add_one, hr]; rfl)
      obtain ⟨⟨hp1, hp4⟩, hs⟩ := HT.out j r hr
      have hgl := ownsRow_lt HV.out (g := g) rfl
      obtain ⟨c0, c1, _⟩ := rec_cells HV.out j r hr
      obtain ⟨q, hq⟩ := Int.eq_ofNat_of_zero_le (show 0 ≤ r.p by omega)
      have HQ := hidK hq
      replace c0 := (HB.out.cell (p := ⟨g, j * 3, none⟩) hgl).trans c0
      replace c1 := (HB.out.cell (p := ⟨g, j * 3 + 1, none⟩) hgl).trans c1
      rw [hs] at c1
      rw [hq] at c0 c1 hp1 hp4
      have hq5 : q < 5 := by omega
      obtain ⟨b0, z0⟩ := HL.out.cells q hq5
      have HN := hidK (fun nd : Nat => LastRep.step (w := wr.drewN nd) ⟨HL.out.blk⟩ hq hq5)
      have hcl := cnt_len q (l.take j)
      have hcl2 : (l.take j).length ≤ 60 := by rw [List.length_take]; omega
      generalize hcn : cnt (q : Int) (l.take j) = cn at *
      have hwr : IntKind.i64.wrap ((cn : Int) + 1) = (cn : Int) + 1 := wrap_midK _ (by omega) (by omega)
      have hqi0 : (0 : Int) ≤ (q : Int) := by omega
      have hqi1 : (q : Int) < 5 := by omega
      have hq1 : ¬ (q : Int) < 1 := by omega
      have hq4 : ¬ 4 < (q : Int) := by omega
      have hji0 : (0 : Int) ≤ (j : Int) := by omega
      have hji1 : (j : Int) < (l.length : Int) := by omega
      clear hr hs hq hcn hcl
      go_wp2_with fail
      go_quiet (fail)
      go_wp2
      go_roundw
      case rel => exact ⟨j + 1, by omega, by go_num, Below.setCell (w := wr.drewN nq) (HB.out.trans ⟨rfl, rfl, rfl, Nat.le_refl _, fun _ _ => rfl⟩) (p := ⟨w.heap.size, q, none⟩) (Nat.le_refl _) _, by rw [HTk.out]; exact HN.out nq⟩
      case measure => simp [intOf]; omega
    · have : j = l.length := by omega
      subst this
      go_wp2
      go_ret
      exact ⟨rfl, HB.out⟩
end Go.Proofs.Ythpjcmilfipbaaa
