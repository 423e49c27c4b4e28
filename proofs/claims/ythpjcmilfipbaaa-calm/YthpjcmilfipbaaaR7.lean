/- My own text: several texts in one. -/
import Derived.Test.YthpjcmilfipbaaaR4
import Derived.Test.YthpjcmilfipbaaaR6
namespace Go.Proofs.Ythpjcmilfipbaaa
set_option linter.unusedVariables false
set_option linter.unusedSimpArgs false
open Go.RowKit
theorem infoSeeR : (Try.prog.info? 109).map (fun i => (i.zero, i.size, i.bytes)) = some (some (.agg #[.int .i64 0, .int .i64 0, .int .i64 0, .int .i64 0, .int .i64 0]), 5, 40) := by kernel_rfl
def seeRowR (m : Msg) : List Value := [.int .i64 m.kind, .int .i64 m.frm, .int .i64 m.to, .int .i64 m.epoch, .int .i64 m.n]
def seeCellsR (l : List Msg) : List Value := l.flatMap seeRowR
theorem seeCellsR_append (l m : List Msg) : seeCellsR (l ++ m) = seeCellsR l ++ seeCellsR m := by simp [seeCellsR]
theorem seeRowR_one (m : Msg) : ∀ u ∈ seeRowR m, u.oneCell' = true := by
  intro u hu
  simp only [seeRowR, List.mem_cons, List.not_mem_nil, or_false] at hu
  rcases hu with rfl | rfl | rfl | rfl | rfl <;> rfl
section
variable {w : World} {S : Nat → Prop} {b : Nat} {d : Wd} {ev uv : Value}
theorem rUnder_at {d : Wd} {i : Int} (hu : rUnder d i = true) : ∃ n x, i = ((n : Nat) : Int) ∧ d.way[n]? = some x := by
  simp [rUnder] at hu
  obtain ⟨n, rfl⟩ := Int.eq_ofNat_of_zero_le hu.1
  have hn : n < d.way.length := by omega
  exact ⟨n, d.way[n], rfl, by simp [hn]⟩

set_option maxHeartbeats 800000 in
theorem rdrop_nil (i : Int) (w : World) :
    Calls Try.prog 82 #[.pointer none, .int .i64 i] w fun e w' => e = .returned (.int .i64 1) ∧ Below w.heap.size w w' := by
  go_enter Try.func82, Try.ntmps82
  go_wp2_with fail
  refine (rout_nil i w).mono ?_
  rintro e w2 ⟨rfl, hB⟩
  have HB : Hid (Below w.heap.size w w2) := hB
  have hs := hB.size
  clear hB
  unfold noLet
  go_wp2
  go_ret
  exact ⟨rfl, HB.out.alloc hs _⟩

set_option maxHeartbeats 800000 in
theorem rdrop_any (h : RRep w S b d ev uv) (hway : d.way.length ≤ 50) (i : Int) :
    Calls Try.prog 82 #[.pointer (some ⟨b, 0, none⟩), .int .i64 i] w fun e w' =>
      e = .returned (.int .i64 (rDrop d i).2) ∧ (∃ uv', RRep w' (Ext S w) b (rDrop d i).1 ev uv') ∧ Fr S w w' := by
  have H : Hid (RRep w S b d ev uv) := h
  cases hu : rUnder d i
  · have HF : Hid (rDrop d i = (d, 13)) := by show rDrop d i = _; simp [rDrop, hu]
    clear h
    go_enter Try.func82, Try.ntmps82
    go_wp2_with fail
    refine (rout_bad H.out i hu).mono ?_
    rintro e w2 ⟨rfl, hB⟩
    have HB : Hid (Below w.heap.size w w2) := hB
    clear hB
    unfold noLet
    go_wp2
    go_ret
    rw [HF.out]
    exact ⟨rfl, ⟨_, ((H.out.below HB.out).alloc _).mono fun _ _ e => Or.inl e⟩, (Fr.below HB.out).then (Fr.alloc _ _ _)⟩
  · obtain ⟨n, x, rfl, hx⟩ := rUnder_at hu
    have HF : Hid (rDrop d n = (rOut d n, 0)) := by show rDrop d n = _; simp [rDrop, hu]
    have HX : Hid (d.way[n]? = some x) := hx
    clear h hx
    go_enter Try.func82, Try.ntmps82
    go_wp2_with fail
    refine (rout_any H.out hway n x HX.out).mono ?_
    rintro e w2 ⟨rfl, ⟨uv2, hR⟩, hF⟩
    have HR : Hid (RRep w2 (Ext S w) b (rOut d n) ev uv2) := hR
    have HFr : Hid (Fr S w w2) := hF
    clear hR hF
    unfold letVal
    go_wp2
    go_ret
    rw [HF.out]
    exact ⟨rfl, ⟨_, HR.out.alloc _⟩, HFr.out.then (Fr.alloc _ _ _)⟩

set_option maxHeartbeats 800000 in
theorem rtwice_nil (i : Int) (w : World) :
    Calls Try.prog 83 #[.pointer none, .int .i64 i] w fun e w' => e = .returned (.int .i64 1) ∧ w' = w := by
  go_enter Try.func83, Try.ntmps83
  go_wp2
  go_ret
  exact ⟨rfl, rfl⟩

set_option maxHeartbeats 800000 in
set_option maxRecDepth 100000 in
theorem rtwice_any (h : RRep w S b d ev uv) (hway : d.way.length ≤ 50) (i : Int) :
    Calls Try.prog 83 #[.pointer (some ⟨b, 0, none⟩), .int .i64 i] w fun e w' =>
      e = .returned (.int .i64 (rTwice d i).2) ∧ (∃ uv', RRep w' (Ext S w) b (rTwice d i).1 ev uv') ∧ Fr S w w' := by
  have H : Hid (RRep w S b d ev uv) := h
  have hw := h.cWay
  have hb := h.lt
  have hwy := h.way
  obtain ⟨ao, cap, hu', _, _, hpos⟩ := ownsRow_shape h.way
  subst hu'
  cases hu : rUnder d i
  · have HF : Hid (rTwice d i = (d, 13)) := by show rTwice d i = _; simp [rTwice, hu]
    have hcase : i < 0 ∨ (0 ≤ i ∧ (d.way.length : Int) ≤ i) := by simp [rUnder] at hu; omega
    clear h hwy hpos hu
    rcases hcase with h1 | ⟨h1, h2⟩
    all_goals
      go_enter Try.func83, Try.ntmps83
      go_wp2
      go_ret
      rw [HF.out]
      exact ⟨rfl, ⟨_, H.out.mono fun _ _ e => Or.inl e⟩, Fr.refl _ _⟩
  · obtain ⟨n, x, rfl, hx⟩ := rUnder_at hu
    have HF : Hid (rTwice d n = (rSends d x, 0)) := by show rTwice d n = _; simp [rTwice, hu, hx]
    have hn : n < d.way.length := (List.getElem?_eq_some_iff.1 hx).1
    obtain ⟨g, rfl⟩ := hpos (by omega)
    obtain ⟨c0, c1, c2, c3, c4, c5⟩ := let_cells hwy n x hx
    have hgl := ownsRow_lt hwy (g := g) rfl
    have hni : (n : Int) < (d.way.length : Int) := by omega
    clear h hx hwy hpos hu
    go_enter Try.func83, Try.ntmps83
    go_wp2_with fail
    refine (rsends_any (H.out.alloc _) hway x _ rfl).mono ?_
    rintro e w2 ⟨rfl, ⟨uv2, hR⟩, hF⟩
    have HR : Hid (RRep w2 (Ext S w) b (rSends d x) ev uv2) := hR.mono fun k _ e => orR e fun e => by simp at e; omega
    have HFr : Hid (Fr S w w2) := (Fr.alloc _ _ _).then hF
    clear hR hF
    go_wp2
    go_ret
    rw [HF.out]
    exact ⟨rfl, ⟨_, HR.out⟩, HFr.out⟩

set_option maxHeartbeats 800000 in
theorem rmessages_nil (w : World) :
    Calls Try.prog 78 #[.pointer none] w fun e w' => e = .returned (.tuple #[.slice none 0 0, .int .i64 1]) ∧ w' = w := by
  go_enter Try.func78, Try.ntmps78
  go_wp2
  go_ret2
  exact ⟨rfl, rfl⟩

set_option maxHeartbeats 3200000 in
set_option maxRecDepth 100000 in
theorem rmessages_any (h : RRep w S b d ev uv) (hway : d.way.length ≤ 50) :
    Calls Try.prog 78 #[.pointer (some ⟨b, 0, none⟩)] w fun e w' =>
      ∃ v, e = .returned (.tuple #[v, .int .i64 0]) ∧ w'.ownsRow w.heap.size 109 5 v d.way.length (seeCellsR d.way) ∧ Below w.heap.size w w' := by
  have hb := h.lt
  obtain ⟨ao, cap, hu, _, _, hpos⟩ := ownsRow_shape h.way
  subst hu
  have HP : Hid (0 < d.way.length → ∃ g, ao = some ⟨g, 0, none⟩) := hpos
  have H : Hid (RRep w S b d ev (.slice ao d.way.length cap)) := h
  clear h hpos
  obtain ⟨i0, hi0, hz0, hz1, hz2⟩ := info_parts infoSeeR
  go_enter Try.func78, Try.ntmps78
  go_wp2
  go_loopw [4, 5] (fun v t wr => ∃ k : Nat, k ≤ d.way.length ∧ t = .int .i64 k ∧ wr.ownsRow w.heap.size 109 5 v k (seeCellsR (d.way.take k)) ∧ Below w.heap.size w wr)
    (fun _ t _ => d.way.length - (intOf t).toNat)
  case atStart => exact ⟨0, Nat.zero_le _, rfl, World.ownsRow_nil _ _ _ _, Below.refl _ _⟩
  case round =>
    obtain ⟨k, hk, rfl, hown, hbel⟩ := hrel
    have hszr := hbel.size
    have hRw : RRep wr S b d ev (.slice ao d.way.length cap) := H.out.below hbel
    have cw := hRw.cWay
    have hwr := hRw.way
    have HO : Hid (wr.ownsRow w.heap.size 109 5 u4 k (seeCellsR (d.way.take k))) := hown
    have HB : Hid (Below w.heap.size w wr) := hbel
    have hbr : b < wr.heap.size := hRw.lt
    clear hRw hown hbel
    by_cases hkn : k < d.way.length
    · obtain ⟨g, rfl⟩ := HP.out (by omega)
      have hy : d.way[k]? = some d.way[k] := by simp [hkn]
      obtain ⟨c0, c1, c2, c3, c4, c5⟩ := let_cells hwr k _ hy
      have HT : Hid (d.way.take (k + 1) = d.way.take k ++ [d.way[k]]) := by
        show d.way.take (k + 1) = _
        rw [List.take_succ_eq_append_getElem hkn]
      have hglr := ownsRow_lt hwr (g := g) rfl
      clear hwr hy
      generalize d.way[k] = y at c0 c1 c2 c3 c4 c5 HT
      have hnews := seeRowR_one y
      go_wp2_with (first | (at_builtin; refine wpList_append_own _ rfl _ _ 82 rfl w.heap.size 109 i0 _ 5 40 Try.underlying82 hi0 hz0 hz1 hz2 rfl (by omega) u4 k (seeCellsR (d.way.take k)) rfl (HO.out.alloc _) ⟨wr.heap.size, 0, none⟩ 1 1 (seeRowR y) rfl rfl (World.news_of_block (cs := (seeRowR y).toArray) (t := 109) (fr := (0, 0)) (heap_alloc_new wr _)) hnews (by unfold maxLen; omega) (by omega) (by simp; omega) ?_))
      intro v2 w2 hown2 hgrow2 hx2
      clear hx2
      have HO2 : Hid _ := hown2
      have HG2 : Hid _ := hgrow2
      clear hown2 hgrow2
      go_wp2
      go_roundw
      case rel =>
        refine ⟨k + 1, by omega, by go_num, ?_, ?_⟩
        · have e2 : seeCellsR [y] = seeRowR y := by simp [seeCellsR]
          rw [HT.out, seeCellsR_append, e2]
          exact HO2.out
        · exact (HB.out.alloc hszr _).grown HG2.out (by simp; omega) (fun q hq => ((HO.out.lt q hq).1))
      case measure => simp [intOf]; omega
    · have : k = d.way.length := by omega
      subst this
      go_wp2
      go_ret2
      refine ⟨_, rfl, ?_, HB.out⟩
      have := HO.out
      rw [List.take_length] at this
      exact this
end
end Go.Proofs.Ythpjcmilfipbaaa

namespace Go.Proofs.Ythpjcmilfipbaaa
set_option linter.unusedVariables false
set_option linter.unusedSimpArgs false
open Go.RowKit
section
variable {w : World} {S : Nat → Prop} {b : Nat} {d : Wd} {ev uv : Value}
theorem rtakes_any (h : RRep w S b d ev uv) (hok : ROk d) (k : Nat) (hk : k < 5) (m : Msg) (hm : MsgOk d.eras.length m) :
    Calls Try.prog 102 #[.pointer (some ⟨b, 0, none⟩), .int .i64 k, letVal m] w fun e w' =>
      e = .returned (.tuple #[]) ∧ (∃ uv', RRep w' (Ext S w) b (rTakes d k m) ev uv') ∧ Fr S w w' := by
  by_cases he : m.epoch < (d.mem k).follows
  · exact rtakes_old h k hk m he
  by_cases h1 : m.kind = 1
  · exact rtakes_start h hok k hk m hm he h1
  by_cases h2 : m.kind = 2
  · exact rtakes_read h hok k hk m hm he h2
  by_cases h4 : m.kind = 4
  · exact rtakes_state h hok k hk m hm he h4
  by_cases h8 : m.kind = 8
  · by_cases hc : (d.mem k).follows = m.epoch ∧ (d.mem k).given = m.epoch ∧ (d.mem k).role = 0
    · exact rtakes_append h hok k hk m hm h8 hc.1 hc.2.1 hc.2.2
    · exact rtakes_not h k hk m he h8 hc
  exact rtakes_rest h hok k hk m hm he h1 h2 h4 h8
theorem ext_ext {W : World} (hs : w.heap.size ≤ W.heap.size) (k : Nat) (e : Ext (Ext S w) W k) : Ext S w k := by
  rcases e with e | e
  · exact e
  · exact Or.inr (Nat.le_trans hs e)
theorem ROk.outOk (hok : ROk d) (n : Nat) : ROk (rOut d n) :=
  { hok with
    way := by have := List.length_eraseIdx_le d.way n; have := hok.way; show (d.way.eraseIdx n).length ≤ 50; omega
    msg := fun m hm => hok.msg m (List.mem_of_mem_eraseIdx hm) }

set_option maxHeartbeats 800000 in
theorem rdeliver_nil (i : Int) (w : World) :
    Calls Try.prog 81 #[.pointer none, .int .i64 i] w fun e w' => e = .returned (.int .i64 1) ∧ Below w.heap.size w w' := by
  go_enter Try.func81, Try.ntmps81
  go_wp2_with fail
  refine (rout_nil i w).mono ?_
  rintro e w2 ⟨rfl, hB⟩
  have HB : Hid (Below w.heap.size w w2) := hB
  have hs := hB.size
  clear hB
  unfold noLet
  go_wp2
  go_ret
  exact ⟨rfl, HB.out.alloc hs _⟩

set_option maxHeartbeats 3200000 in
set_option maxRecDepth 100000 in
theorem rdeliver_any (h : RRep w S b d ev uv) (hok : ROk d) (i : Int) :
    Calls Try.prog 81 #[.pointer (some ⟨b, 0, none⟩), .int .i64 i] w fun e w' =>
      e = .returned (.int .i64 (rDeliver d i).2) ∧ (∃ uv', RRep w' (Ext S w) b (rDeliver d i).1 ev uv') ∧ Fr S w w' := by
  have H : Hid (RRep w S b d ev uv) := h
  have HO : Hid (ROk d) := hok
  cases hu : rUnder d i
  · have HF : Hid (rDeliver d i = (d, 13)) := by show rDeliver d i = _; simp [rDeliver, hu]
    clear h hok
    go_enter Try.func81, Try.ntmps81
    go_wp2_with fail
    refine (rout_bad H.out i hu).mono ?_
    rintro e w2 ⟨rfl, hB⟩
    have HB : Hid (Below w.heap.size w w2) := hB
    clear hB
    unfold noLet
    go_wp2
    go_ret
    rw [HF.out]
    exact ⟨rfl, ⟨_, ((H.out.below HB.out).alloc _).mono fun _ _ e => Or.inl e⟩, (Fr.below HB.out).then (Fr.alloc _ _ _)⟩
  · obtain ⟨n, m, rfl, hx⟩ := rUnder_at hu
    have hm := hok.msg m (List.mem_of_getElem? hx)
    have HF : Hid (rDeliver d n = (rGet (rOut d n) m, 0)) := by show rDeliver d n = _; simp [rDeliver, hu, hx]
    have HX : Hid (d.way[n]? = some m) := hx
    have HM : Hid (MsgOk (rOut d n).eras.length m) := hm
    have HO2 : Hid (ROk (rOut d n)) := hok.outOk n
    have hto := hm.to
    obtain ⟨q, hq⟩ : ∃ q : Nat, m.epoch = (q : Int) + 1 := ⟨(m.epoch - 1).toNat, by have := hm.ep; omega⟩
    have HQ : Hid (m.epoch = (q : Int) + 1 ∧ q < (rOut d n).eras.length) := ⟨hq, by have := hm.ep; show q < d.eras.length; omega⟩
    clear h hx hok hm hq
    by_cases ht : m.to = -1
    · have bt : (m.to == -1) = true := by simp [ht]
      have HG : Hid (rGet (rOut d n) m = rMaster (rOut d n) m.epoch) := by show rGet (rOut d n) m = _; rw [rGet, if_pos ht]
      clear ht hto
      go_enter Try.func81, Try.ntmps81
      go_wp2_with fail
      refine (rout_any H.out HO.out.way n m HX.out).mono ?_
      rintro e w2 ⟨rfl, ⟨uv2, hR⟩, hF⟩
      have HR : Hid (RRep w2 (Ext S w) b (rOut d n) ev uv2) := hR
      have HFr : Hid (Fr S w w2) := hF
      clear hR hF
      unfold letVal
      go_wp2_with fail
      rw [HQ.out.1]
      refine (rmaster_any (HR.out.alloc _) HO2.out q HQ.out.2).mono ?_
      rintro e w3 ⟨rfl, ⟨uv3, hR3⟩, hF3⟩
      have HR3 : Hid _ := hR3
      have HF3 : Hid _ := hF3
      clear hR3 hF3
      go_wp2
      go_ret
      rw [HF.out, HG.out, HQ.out.1]
      exact ⟨rfl, ⟨uv3, HR3.out.mono fun k _ e => ext_ext (by simp; exact Nat.le_succ_of_le HFr.out.size) k e⟩, HFr.out.trans ((Fr.alloc _ _ _).then HF3.out)⟩
    · have bt : (m.to == -1) = false := by simp [ht]
      obtain ⟨t, htt⟩ := Int.eq_ofNat_of_zero_le (show 0 ≤ m.to by omega)
      have ht5 : t < 5 := by omega
      have HG : Hid (rGet (rOut d n) m = if (d.mem t).up then rTakes (rOut d n) t m else rOut d n) := by show rGet (rOut d n) m = _; rw [rGet, if_neg ht, htt]; rfl
      have hti0 : (0 : Int) ≤ (t : Int) := by omega
      have hti5 : (t : Int) < 5 := by omega
      have hs' : Hid (w.heap.size ≤ w.heap.size) := Nat.le_refl _
      clear ht hto
      go_enter Try.func81, Try.ntmps81
      go_wp2_with fail
      refine (rout_any H.out HO.out.way n m HX.out).mono ?_
      rintro e w2 ⟨rfl, ⟨uv2, hR⟩, hF⟩
      have HR : Hid (RRep w2 (Ext S w) b (rOut d n) ev uv2) := hR
      have HFr : Hid (Fr S w w2) := hF
      have cU := hR.cUp t ht5
      have hb2 := hR.lt
      clear hR hF
      unfold letVal
      rw [htt] at bt ⊢
      cases hup : (d.mem t).up
      · have hup2 : ((rOut d n).mem t).up = false := hup
        rw [hup2] at cU
        go_wp2_with fail
        go_quiet (fail)
        go_wp2
        go_ret
        rw [HF.out, HG.out, hup]
        exact ⟨rfl, ⟨uv2, (HR.out.alloc _).drewN _⟩, HFr.out.then ((Fr.alloc _ _ _).then (Fr.drewN _ _ _))⟩
      · have hup2 : ((rOut d n).mem t).up = true := hup
        rw [hup2] at cU
        go_wp2_with fail
        go_quiet (fail)
        go_wp2_with fail
        have HV : Hid (letVal m = .agg #[.int .i64 m.kind, .int .i64 m.frm, .int .i64 t, .int .i64 m.epoch, .int .i64 m.n, .string (encB m.recs)]) := by show letVal m = _; rw [letVal, htt]
        rw [← HV.out]
        refine (rtakes_any ((HR.out.alloc _).drewN _) HO2.out t ht5 m HM.out).mono ?_
        rintro e w3 ⟨rfl, ⟨uv3, hR3⟩, hF3⟩
        have HR3 : Hid _ := hR3
        have HF3 : Hid _ := hF3
        clear hR3 hF3
        go_wp2
        go_ret
        rw [HF.out, HG.out, hup]
        exact ⟨rfl, ⟨uv3, HR3.out.mono fun k _ e => ext_ext (by simp; exact Nat.le_succ_of_le HFr.out.size) k e⟩, HFr.out.trans ((Fr.alloc _ _ _).then ((Fr.drewN _ _ _).then HF3.out))⟩
end
end Go.Proofs.Ythpjcmilfipbaaa
