/- My own text. Walks of package ledgerref: Drop, Twice, Messages. -/
import Derived.Test.YthpfgmdffendoaaRefOut
namespace Go.Proofs.Ythpfgmdffendoaa
set_option linter.unusedVariables false
set_option linter.unusedSimpArgs false
open Go.RowKit
theorem infoSeeR : (Try.prog.info? 113).map (fun i => (i.zero, i.size, i.bytes)) = some (some (.agg #[.int .i64 0, .int .i64 0, .int .i64 0, .int .i64 0, .int .i64 0]), 5, 40) := by kernel_rfl
def seeRowR (m : Msg) : List Value := [.int .i64 m.kind, .int .i64 m.frm, .int .i64 m.to, .int .i64 m.epoch, .int .i64 m.n]
def seeCellsR (l : List Msg) : List Value := l.flatMap seeRowR
theorem seeCellsR_append (l m : List Msg) : seeCellsR (l ++ m) = seeCellsR l ++ seeCellsR m := by simp [seeCellsR]
theorem seeRowR_one (m : Msg) : ∀ u ∈ seeRowR m, u.oneCell' = true := by
  intro u hu
  simp only [seeRowR, List.mem_cons, List.not_mem_nil, or_false] at hu
  rcases hu with rfl | rfl | rfl | rfl | rfl <;> rfl
section
variable {w : World} {S : Nat → Prop} {b : Nat} {d : Wd} {ev uv : Value}
theorem rUnder_at {d : Wd} {i : Int} (hu : rUnder d i = true) : ∃ n x, i = ((n : Nat) : Int) ∧ d.way[n]? = some x := by
  simp [rUnder] at hu
  obtain ⟨n, rfl⟩ := Int.eq_ofNat_of_zero_le hu.1
  have hn : n < d.way.length := by omega
  exact ⟨n, d.way[n], rfl, by simp [hn]⟩

set_option maxHeartbeats 800000 in
theorem rdrop_nil (i : Int) (w : World) :
    Calls Try.prog 68 #[.pointer none, .int .i64 i] w fun e w' => e = .returned (.int .i64 1) ∧ Below w.heap.size w w' := by
  go_enter Try.func68, Try.ntmps68
  go_wp2_with fail
  refine (rout_nil i w).mono ?_
  rintro e w2 ⟨rfl, hB⟩
  have HB : Hid (Below w.heap.size w w2) := hB
  have hs := hB.size
  clear hB
  unfold noLet
  go_wp2
  go_ret
  exact ⟨rfl, HB.out.alloc hs _⟩

set_option maxHeartbeats 800000 in
theorem rdrop_any (h : RRep w S b d ev uv) (hway : d.way.length ≤ 50) (i : Int) :
    Calls Try.prog 68 #[.pointer (some ⟨b, 0, none⟩), .int .i64 i] w fun e w' =>
      e = .returned (.int .i64 (rDrop d i).2) ∧ (∃ uv', RRep w' (Ext S w) b (rDrop d i).1 ev uv') ∧ Fr S w w' := by
  have H : Hid (RRep w S b d ev uv) := h
  cases hu : rUnder d i
  · have HF : Hid (rDrop d i = (d, 13)) := by show rDrop d i = _; simp [rDrop, hu]
    clear h
    go_enter Try.func68, Try.ntmps68
    go_wp2_with fail
    refine (rout_bad H.out i hu).mono ?_
    rintro e w2 ⟨rfl, hB⟩
    have HB : Hid (Below w.heap.size w w2) := hB
    clear hB
    unfold noLet
    go_wp2
    go_ret
    rw [HF.out]
    exact ⟨rfl, ⟨_, ((H.out.below HB.out).alloc _).mono fun _ _ e => Or.inl e⟩, (Fr.below HB.out).then (Fr.alloc _ _ _)⟩
  · obtain ⟨n, x, rfl, hx⟩ := rUnder_at hu
    have HF : Hid (rDrop d n = (rOut d n, 0)) := by show rDrop d n = _; simp [rDrop, hu]
    have HX : Hid (d.way[n]? = some x) := hx
    clear h hx
    go_enter Try.func68, Try.ntmps68
    go_wp2_with fail
    refine (rout_any H.out hway n x HX.out).mono ?_
    rintro e w2 ⟨rfl, ⟨uv2, hR⟩, hF⟩
    have HR : Hid (RRep w2 (Ext S w) b (rOut d n) ev uv2) := hR
    have HFr : Hid (Fr S w w2) := hF
    clear hR hF
    unfold letVal
    go_wp2
    go_ret
    rw [HF.out]
    exact ⟨rfl, ⟨_, HR.out.alloc _⟩, HFr.out.then (Fr.alloc _ _ _)⟩

set_option maxHeartbeats 800000 in
theorem rtwice_nil (i : Int) (w : World) :
    Calls Try.prog 69 #[.pointer none, .int .i64 i] w fun e w' => e = .returned (.int .i64 1) ∧ w' = w := by
  go_enter Try.func69, Try.ntmps69
  go_wp2
  go_ret
  exact ⟨rfl, rfl⟩

set_option maxHeartbeats 800000 in
set_option maxRecDepth 100000 in
theorem rtwice_any (h : RRep w S b d ev uv) (hway : d.way.length ≤ 50) (i : Int) :
    Calls Try.prog 69 #[.pointer (some ⟨b, 0, none⟩), .int .i64 i] w fun e w' =>
      e = .returned (.int .i64 (rTwice d i).2) ∧ (∃ uv', RRep w' (Ext S w) b (rTwice d i).1 ev uv') ∧ Fr S w w' := by
  have H : Hid (RRep w S b d ev uv) := h
  have hw := h.cWay
  have hb := h.lt
  have hwy := h.way
  obtain ⟨ao, cap, hu', _, _, hpos⟩ := ownsRow_shape h.way
  subst hu'
  cases hu : rUnder d i
  · have HF : Hid (rTwice d i = (d, 13)) := by show rTwice d i = _; simp [rTwice, hu]
    have hcase : i < 0 ∨ (0 ≤ i ∧ (d.way.length : Int) ≤ i) := by simp [rUnder] at hu; omega
    clear h hwy hpos hu
    rcases hcase with h1 | ⟨h1, h2⟩
    all_goals
      go_enter Try.func69, Try.ntmps69
      go_wp2
      go_ret
      rw [HF.out]
      exact ⟨rfl, ⟨_, H.out.mono fun _ _ e => Or.inl e⟩, Fr.refl _ _⟩
  · obtain ⟨n, x, rfl, hx⟩ := rUnder_at hu
    have HF : Hid (rTwice d n = (rSends d x, 0)) := by show rTwice d n = _; simp [rTwice, hu, hx]
    have hn : n < d.way.length := (List.getElem?_eq_some_iff.1 hx).1
    obtain ⟨g, rfl⟩ := hpos (by omega)
    obtain ⟨c0, c1, c2, c3, c4, c5⟩ := let_cells hwy n x hx
    have hgl := ownsRow_lt hwy (g := g) rfl
    have hni : (n : Int) < (d.way.length : Int) := by omega
    clear h hx hwy hpos hu
    go_enter Try.func69, Try.ntmps69
    go_wp2_with fail
    refine (rsends_any (H.out.alloc _) hway x _ rfl).mono ?_
    rintro e w2 ⟨rfl, ⟨uv2, hR⟩, hF⟩
    have HR : Hid (RRep w2 (Ext S w) b (rSends d x) ev uv2) := hR.mono fun k _ e => orR e fun e => by simp at e; omega
    have HFr : Hid (Fr S w w2) := (Fr.alloc _ _ _).then hF
    clear hR hF
    go_wp2
    go_ret
    rw [HF.out]
    exact ⟨rfl, ⟨_, HR.out⟩, HFr.out⟩

set_option maxHeartbeats 800000 in
theorem rmessages_nil (w : World) :
    Calls Try.prog 64 #[.pointer none] w fun e w' => e = .returned (.tuple #[.slice none 0 0, .int .i64 1]) ∧ w' = w := by
  go_enter Try.func64, Try.ntmps64
  go_wp2
  go_ret2
  exact ⟨rfl, rfl⟩

set_option maxHeartbeats 3200000 in
set_option maxRecDepth 100000 in
theorem rmessages_any (h : RRep w S b d ev uv) (hway : d.way.length ≤ 50) :
    Calls Try.prog 64 #[.pointer (some ⟨b, 0, none⟩)] w fun e w' =>
      ∃ v, e = .returned (.tuple #[v, .int .i64 0]) ∧ w'.ownsRow w.heap.size 113 5 v d.way.length (seeCellsR d.way) ∧ Below w.heap.size w w' := by
  have hb := h.lt
  obtain ⟨ao, cap, hu, _, _, hpos⟩ := ownsRow_shape h.way
  subst hu
  have HP : Hid (0 < d.way.length → ∃ g, ao = some ⟨g, 0, none⟩) := hpos
  have H : Hid (RRep w S b d ev (.slice ao d.way.length cap)) := h
  clear h hpos
  obtain ⟨i0, hi0, hz0, hz1, hz2⟩ := info_parts infoSeeR
  go_enter Try.func64, Try.ntmps64
  go_wp2
  go_loopw [4, 5] (fun v t wr => ∃ k : Nat, k ≤ d.way.length ∧ t = .int .i64 k ∧ wr.ownsRow w.heap.size 113 5 v k (seeCellsR (d.way.take k)) ∧ Below w.heap.size w wr)
    (fun _ t _ => d.way.length - (intOf t).toNat)
  case atStart => exact ⟨0, Nat.zero_le _, rfl, World.ownsRow_nil _ _ _ _, Below.refl _ _⟩
  case round =>
    obtain ⟨k, hk, rfl, hown, hbel⟩ := hrel
    have hszr := hbel.size
    have hRw : RRep wr S b d ev (.slice ao d.way.length cap) := H.out.below hbel
    have cw := hRw.cWay
    have hwr := hRw.way
    have HO : Hid (wr.ownsRow w.heap.size 113 5 u4 k (seeCellsR (d.way.take k))) := hown
    have HB : Hid (Below w.heap.size w wr) := hbel
    have hbr : b < wr.heap.size := hRw.lt
    clear hRw hown hbel
    by_cases hkn : k < d.way.length
    · obtain ⟨g, rfl⟩ := HP.out (by omega)
      have hy : d.way[k]? = some d.way[k] := by simp [hkn]
      obtain ⟨c0, c1, c2, c3, c4, c5⟩ := let_cells hwr k _ hy
      have HT : Hid (d.way.take (k + 1) = d.way.take k ++ [d.way[k]]) := by
        show d.way.take (k + 1) = _
        rw [List.take_succ_eq_append_getElem hkn]
      have hglr := ownsRow_lt hwr (g := g) rfl
      clear hwr hy
      generalize d.way[k] = y at c0 c1 c2 c3 c4 c5 HT
      have hnews := seeRowR_one y
      go_wp2_with (first | (at_builtin; refine wpList_append_own _ rfl _ _ 73 rfl w.heap.size 113 i0 _ 5 40 Try.underlying73 hi0 hz0 hz1 hz2 rfl (by omega) u4 k (seeCellsR (d.way.take k)) rfl (HO.out.alloc _) ⟨wr.heap.size, 0, none⟩ 1 1 (seeRowR y) rfl rfl (World.news_of_block (cs := (seeRowR y).toArray) (t := 113) (fr := (0, 0)) (heap_alloc_new wr _)) hnews (by unfold maxLen; omega) (by omega) (by simp; omega) ?_))
      intro v2 w2 hown2 hgrow2 hx2
      clear hx2
      have HO2 : Hid _ := hown2
      have HG2 : Hid _ := hgrow2
      clear hown2 hgrow2
      go_wp2
      go_roundw
      case rel =>
        refine ⟨k + 1, by omega, by go_num, ?_, ?_⟩
        · have e2 : seeCellsR [y] = seeRowR y := by simp [seeCellsR]
          rw [HT.out, seeCellsR_append, e2]
          exact HO2.out
        · exact (HB.out.alloc hszr _).grown HG2.out (by simp; omega) (fun q hq => ((HO.out.lt q hq).1))
      case measure => simp [intOf]; omega
    · have : k = d.way.length := by omega
      subst this
      go_wp2
      go_ret2
      refine ⟨_, rfl, ?_, HB.out⟩
      have := HO.out
      rw [List.take_length] at this
      exact this
end
end Go.Proofs.Ythpfgmdffendoaa
