/- My own text. Walks: Messages. -/
import Derived.Test.YthpfgmdffendoaaDrop
namespace Go.Proofs.Ythpfgmdffendoaa
set_option linter.unusedVariables false
set_option linter.unusedSimpArgs false
open Go.RowKit
def seeRow (m : Msg) : List Value := [.int .i64 m.kind, .int .i64 m.frm, .int .i64 m.to, .int .i64 m.epoch, .int .i64 m.n]
def seeCells (l : List Msg) : List Value := l.flatMap seeRow
theorem seeCells_append (l m : List Msg) : seeCells (l ++ m) = seeCells l ++ seeCells m := by simp [seeCells]
theorem seeCells_len (l : List Msg) : (seeCells l).length = l.length * 5 := flat_len _ 5 (fun _ => rfl) l
theorem seeRow_one (m : Msg) : ∀ u ∈ seeRow m, u.oneCell' = true := by
  intro u hu
  simp only [seeRow, List.mem_cons, List.not_mem_nil, or_false] at hu
  rcases hu with rfl | rfl | rfl | rfl | rfl <;> rfl
theorem infoSee : (Try.prog.info? 113).map (fun i => (i.zero, i.size, i.bytes)) = some (some (.agg #[.int .i64 0, .int .i64 0, .int .i64 0, .int .i64 0, .int .i64 0]), 5, 40) := by kernel_rfl
section
variable {w : World} {S : Nat → Prop} {b : Nat} {c : Clu} {lv : Nat → Value} {ev uv : Value} {mv : List (Msg × Value)}

set_option maxHeartbeats 3200000 in
set_option maxRecDepth 100000 in
theorem messages_any (h : Rep w S b c lv ev uv mv) (hok : Ok c) :
    Calls Try.prog 30 #[.pointer (some ⟨b, 0, none⟩)] w fun e w' =>
      ∃ v, e = .returned (.tuple #[v, .int .i64 0]) ∧ w'.ownsRow w.heap.size 113 5 v c.ways.length (seeCells c.ways) ∧ Below w.heap.size w w' := by
  have hw := h.cWay
  have hb := h.lt
  have hway := h.way
  have hlen := h.ways_len
  have hways := hok.ways
  have HM : Hid (mv.map Prod.fst = c.ways) := h.mvs
  obtain ⟨ao, cap, hu, hcap, hblk, hpos⟩ := ownsRow_shape h.way
  subst hu
  have HP : Hid (0 < mv.length → ∃ g, ao = some ⟨g, 0, none⟩) := hpos
  have H : Hid (Rep w S b c lv ev (.slice ao mv.length cap) mv) := h
  have HW : Hid (w.ownsRow 0 91 6 (.slice ao mv.length cap) mv.length (msgCells mv)) := hway
  have hml : mv.length ≤ 50 := by omega
  have HRec : Hid (∀ y, y ∈ mv → ∃ ro rc, y.2 = .slice ro y.1.recs.length rc) := by
    intro y hy
    obtain ⟨ro, rc, e, _⟩ := ownsRow_shape (h.recs y hy)
    exact ⟨ro, rc, e⟩
  have HL : Hid (mv.length = c.ways.length) := hlen
  clear h hway hok hlen hways hcap hblk hpos
  obtain ⟨i0, hi0, hz0, hz1, hz2⟩ := info_parts infoSee
  go_enter Try.func30, Try.ntmps30
  go_wp2_with (first | (at_make; refine wpList_make_own _ rfl _ _ 73 rfl w.heap.size 113 i0 _ 5 Try.underlying73 hi0 hz0 hz1 .i64 .i64 _ mv.length rfl rfl rfl (by rw [hz2]; omega) (by unfold maxLen; omega) (by simp) ?_; intro w0 hown0 hgrow0; have hc0 : w0.cell? ⟨b, 51, none⟩ = some (.slice ao mv.length cap) := (by rw [hgrow0.cell_far _ (by simp; omega) (by simp)]; simp [hw])))
  have HOw : Hid (w0.ownsRow w.heap.size 113 5 (.slice (some ⟨w.heap.size, 0, none⟩) 0 mv.length) 0 []) := hown0
  have HBW : Hid (Below w.heap.size w w0) := (Below.refl _ _).grown hgrow0 (by simp) (by simp)
  clear hown0 hgrow0 hw
  go_loopw [4, 20] (fun v t wr => ∃ k : Nat, k ≤ mv.length ∧ t = .int .i64 k ∧ v = .slice (some ⟨w.heap.size, 0, none⟩) k mv.length ∧
      wr.ownsRow w.heap.size 113 5 (.slice (some ⟨w.heap.size, 0, none⟩) k mv.length) k (seeCells ((mv.take k).map Prod.fst)) ∧ Below w.heap.size w wr)
    (fun _ t _ => mv.length - (intOf t).toNat)
  case atStart => exact ⟨0, Nat.zero_le _, rfl, rfl, HOw.out, HBW.out⟩
  case round =>
    obtain ⟨k, hk, rfl, rfl, hown, hbel⟩ := hrel
    have HO : Hid (wr.ownsRow w.heap.size 113 5 (.slice (some ⟨w.heap.size, 0, none⟩) k mv.length) k (seeCells ((mv.take k).map Prod.fst))) := hown
    have HB : Hid (Below w.heap.size w wr) := hbel
    have hszr : w.heap.size ≤ wr.heap.size := hbel.size
    clear hown hbel HOw HBW
    by_cases hkn : k < mv.length
    · have hy : mv[k]? = some mv[k] := by simp [hkn]
      obtain ⟨yr, yc, hyv⟩ := HRec.out mv[k] (List.getElem_mem hkn)
      obtain ⟨g, rfl⟩ := HP.out (by omega)
      have hgl := ownsRow_lt HW.out (g := g) rfl
      have hwr : wr.ownsRow 0 91 6 (.slice (some ⟨g, 0, none⟩) mv.length cap) mv.length (msgCells mv) :=
        ownsRow_same HW.out fun g' hg' hl' => HB.out.block g' hl'
      obtain ⟨c0, c1, c2, c3, c4, c5⟩ := msg_cells hwr k _ hy
      have HT : Hid ((mv.take (k + 1)).map Prod.fst = (mv.take k).map Prod.fst ++ [mv[k].1]) := by
        show (mv.take (k + 1)).map Prod.fst = _
        rw [List.take_succ_eq_append_getElem hkn, List.map_append]; rfl
      clear hwr hy
      generalize mv[k] = y at c0 c1 c2 c3 c4 c5 hyv HT
      rw [hyv] at c5
      clear hyv
      have hglr : g < wr.heap.size := by omega
      have hnews := seeRow_one y.1
      go_wp2_with (first | (at_builtin; refine wpList_append_fits _ rfl _ _ 73 rfl w.heap.size 113 i0 5 Try.underlying73 hi0 hz1 w.heap.size k mv.length (seeCells ((mv.take k).map Prod.fst)) rfl ((HO.out.alloc _).alloc _) ⟨wr.heap.size + 1, 0, none⟩ 1 1 (seeRow y.1) rfl rfl (World.news_of_block (cs := (seeRow y.1).toArray) (t := 113) (fr := (0, 0)) (heap_alloc2_new wr _ _)) hnews (by omega) ?_; intro w2 hown2 hgrow2))
      go_roundw
      case rel =>
        refine ⟨k + 1, by omega, by go_num, rfl, ?_, ?_⟩
        · rw [HT.out, seeCells_append]
          simpa [seeCells] using hown2
        · exact ((HB.out.alloc hszr _).alloc (by simp; omega) _).grown hgrow2 (by simp; omega) (by simp)
      case measure => simp [intOf]; omega
    · have : k = mv.length := by omega
      subst this
      go_wp2
      go_ret2
      refine ⟨_, rfl, ?_, HB.out⟩
      have := HO.out
      rw [List.take_length, HM.out] at this
      rw [← HL.out]; exact this
end
end Go.Proofs.Ythpfgmdffendoaa
