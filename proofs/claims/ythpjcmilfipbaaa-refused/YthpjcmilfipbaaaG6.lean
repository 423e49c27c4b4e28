/- My own text: several texts in one. -/
import Derived.Test.YthpjcmilfipbaaaG5
namespace Go.Proofs.Ythpjcmilfipbaaa
set_option linter.unusedVariables false
set_option linter.unusedSimpArgs false
open Go.RowKit
theorem see_at {w : World} {bs e g n cap : Nat} {l : List Msg} (h : w.ownsRow bs e 5 (.slice (some ⟨g, 0, none⟩) n cap) n (seeCellsR l)) (k : Nat) (x : Msg) (hk : l[k]? = some x) :
    w.cell? ⟨g, k * 5, none⟩ = some (.int .i64 x.kind) ∧ w.cell? ⟨g, k * 5 + 1, none⟩ = some (.int .i64 x.frm) ∧ w.cell? ⟨g, k * 5 + 2, none⟩ = some (.int .i64 x.to) ∧ w.cell? ⟨g, k * 5 + 3, none⟩ = some (.int .i64 x.epoch) ∧ w.cell? ⟨g, k * 5 + 4, none⟩ = some (.int .i64 x.n) := by
  have hc := h.cells (g := g) rfl
  have key : ∀ j u, j < 5 → (seeRowR x)[j]? = some u → w.cell? ⟨g, k * 5 + j, none⟩ = some u := by
    intro j u hj hu
    have := hc (k * 5 + j) u (by rw [seeCellsR, flat_at _ 5 (fun _ => rfl) l k j x hk hj]; exact hu)
    rwa [add_at] at this
  exact ⟨by simpa using key 0 _ (by omega) rfl, key 1 _ (by omega) rfl, key 2 _ (by omega) rfl, key 3 _ (by omega) rfl, key 4 _ (by omega) rfl⟩
section
variable {R : World → (Nat → Prop) → Nat → Wd → Prop} {w w1 : World} {own : Nat → Prop} {cx cy : Nat} {d : Wd}
set_option maxHeartbeats 3200000 in
set_option maxRecDepth 100000 in
theorem ksame_any (s : Side R fnPrg 41 36) (h : Duo R w own cx cy d d) :
    Calls Try.prog 34 #[.pointer (some ⟨cx, 0, none⟩), .pointer (some ⟨cy, 0, none⟩)] w fun e w' => e = .returned (.bool true) ∧ Duo R w' own cx cy d d ∧ Fr (fun k => ¬ own k) w w' := by
  have HS := hidK s
  have H := hidK h
  clear s h
  go_enter Try.func34, Try.ntmps34
  go_wp2_with fail
  go_loopw [5] (fun t wr => ∃ j : Nat, j ≤ 5 ∧ t = .int .i64 j ∧ Duo R wr own cx cy d d ∧ Fr (fun k => ¬ own k) w wr) (fun t _ => 5 - (intOf t).toNat)
  case atStart => exact ⟨0, Nat.zero_le _, rfl, H.out, Fr.refl _ _⟩
  case round =>
    obtain ⟨j, hj5, rfl, hD, hF⟩ := hrel
    have HD := hidK hD
    have HF := hidK hF
    clear hD hF
    by_cases hj : j < 5
    · have HC := hidK (HD.out.callx HS.out (.node j) ⟨by omega, by omega⟩)
      have e1 : (Cl.node j).ans d = .tuple #[(rSeen d j).1.val, .int .i64 (rSeen d j).2] := rfl
      rw [e1] at HC
      clear e1
      generalize hsn : rSeen d (j : Int) = sn at HC
      obtain ⟨⟨u0, u1, u2, u3, u4, u5⟩, z⟩ := sn
      unfold ShowR.val at HC
      have HSN := hidK hsn
      clear hsn
      go_wp2_with fail
      refine HC.out.mono ?_
      rintro e w2 ⟨rfl, h2, hF2⟩
      have h2 : Duo R w2 own cx cy d d := h2
      have hol := h2.own_lt
      have h3 := h2.more HS.out ((Below.refl w2.heap.size w2).alloc (Nat.le_refl _) (.cells #[.bool u0, .int .i64 u1, .int .i64 u2, .int .i64 u3, .int .i64 u4, .int .i64 u5] 41)) (fun k => own k ∨ k = w2.heap.size) (fun k hk => hk.elim Or.inl fun e => Or.inr ⟨by omega, by simp; omega⟩)
      have HC2 := hidK (h3.cally HS.out (.node j) ⟨by omega, by omega⟩)
      have e2 : (Cl.node j).ans d = .tuple #[.agg #[.bool u0, .int .i64 u1, .int .i64 u2, .int .i64 u3, .int .i64 u4, .int .i64 u5], .int .i64 z] := by
        show Value.tuple #[(rSeen d j).1.val, .int .i64 (rSeen d j).2] = _
        rw [HSN.out]; rfl
      rw [e2] at HC2
      have HF2 := hidK ((HF.out.then hF2).then (Fr.alloc _ w2 (.cells #[.bool u0, .int .i64 u1, .int .i64 u2, .int .i64 u3, .int .i64 u4, .int .i64 u5] 41)))
      clear h2 hF2 h3 e2 HC hol
      go_wp2_with fail
      refine HC2.out.mono ?_
      rintro e w3 ⟨rfl, h4, hF4⟩
      have hA : w3.heap[w2.heap.size]? = some (.cells #[.bool u0, .int .i64 u1, .int .i64 u2, .int .i64 u3, .int .i64 u4, .int .i64 u5] 41) := (hF4.block _ (by simp) fun e => e (Or.inr rfl)).trans (heap_alloc_new w2 _)
      have hlt : w2.heap.size < w3.heap.size := (Array.getElem?_eq_some_iff.1 hA).1
      have a0 : w3.cell? ⟨w2.heap.size, 0, none⟩ = some (.bool u0) := (cell_of_row _ _ _ _ _ _ hA).trans rfl
      have a1 : w3.cell? ⟨w2.heap.size, 1, none⟩ = some (.int .i64 u1) := (cell_of_row _ _ _ _ _ _ hA).trans rfl
      have a2 : w3.cell? ⟨w2.heap.size, 2, none⟩ = some (.int .i64 u2) := (cell_of_row _ _ _ _ _ _ hA).trans rfl
      have a3 : w3.cell? ⟨w2.heap.size, 3, none⟩ = some (.int .i64 u3) := (cell_of_row _ _ _ _ _ _ hA).trans rfl
      have a4 : w3.cell? ⟨w2.heap.size, 4, none⟩ = some (.int .i64 u4) := (cell_of_row _ _ _ _ _ _ hA).trans rfl
      have a5 : w3.cell? ⟨w2.heap.size, 5, none⟩ = some (.int .i64 u5) := (cell_of_row _ _ _ _ _ _ hA).trans rfl
      have H4 := hidK (show Duo R w3 own cx cy d d from h4.sub fun k e => Or.inl e)
      have HF4 := hidK (HF2.out.then (hF4.mono fun k e x => e (Or.inl x)))
      clear h4 hF4 hA HC2
      go_wp2_with fail
      go_roundw
      case rel => exact ⟨j + 1, by omega, by go_num, H4.out.quiet HS.out ((Below.refl _ _).alloc (Nat.le_refl _) _), HF4.out.then (Fr.alloc _ _ _)⟩
      case measure => simp [intOf]; omega
    · have : j = 5 := by omega
      subst this
      have hwl := HD.out.okx.way
      have HM := hidK (HD.out.msgsx HS.out)
      go_wp2_with fail
      refine HM.out.mono ?_
      rintro e w2 ⟨vl, rfl, hl, hB2⟩
      obtain ⟨lo, lc, rfl, hlc, _, hlp⟩ := ownsRow_shape hl
      have H2 := hidK (HD.out.quiet HS.out hB2)
      have HB2 := hidK hB2
      have HLr := hidK hl
      have HM2 := hidK (H2.out.symm.msgsx HS.out)
      have hs2 : wr.heap.size ≤ w2.heap.size := HB2.out.size
      clear HM hl hB2
      go_wp2_with fail
      refine HM2.out.mono ?_
      rintro e w3 ⟨vm, rfl, hm, hB3⟩
      obtain ⟨mo, mc, rfl, hmc, _, hmp⟩ := ownsRow_shape hm
      have HB3 := hidK (HB2.out.trans (hB3.mono HB2.out.size))
      have HLr3 := hidK (ownsRow_same HLr.out fun g _ hg => hB3.block g hg)
      have HMr3 := hidK hm
      have H3 := hidK (HD.out.more HS.out HB3.out (fun k => own k ∨ (wr.heap.size ≤ k ∧ k < w3.heap.size)) fun k e => e)
      have hs3 : wr.heap.size ≤ w3.heap.size := HB3.out.size
      clear HM2 hm hB3 H2 HB2 HLr
      have HC := hidK (H3.out.callx HS.out (.config) trivial)
      obtain ⟨y0, y1, y2, y3, hy⟩ : ∃ y0 y1 y2 y3 : Int, (Cl.config).ans d = .tuple #[.agg #[.int .i64 y0, .int .i64 y1, .int .i64 y2, .int .i64 y3], .int .i64 0] := ⟨_, _, _, _, rfl⟩
      rw [hy] at HC
      have HY := hidK hy
      clear hy
      go_wp2_with fail
      refine HC.out.mono ?_
      rintro e w4 ⟨rfl, h4, hF4⟩
      have h4 : Duo R w4 (fun k => own k ∨ (wr.heap.size ≤ k ∧ k < w3.heap.size)) cx cy d d := h4
      have h5 := h4.more HS.out ((Below.refl w4.heap.size w4).alloc (Nat.le_refl _) (.cells #[.int .i64 y0, .int .i64 y1, .int .i64 y2, .int .i64 y3] 59)) (fun k => (own k ∨ (wr.heap.size ≤ k ∧ k < w3.heap.size)) ∨ k = w4.heap.size) (fun k hk => hk.elim Or.inl fun e => Or.inr ⟨by omega, by simp; omega⟩)
      have HC2 := hidK (h5.cally HS.out (.config) trivial)
      rw [HY.out] at HC2
      have HF4 := hidK (hF4.then (Fr.alloc _ w4 (.cells #[.int .i64 y0, .int .i64 y1, .int .i64 y2, .int .i64 y3] 59)))
      clear h4 hF4 h5 HC
      go_wp2_with fail
      refine HC2.out.mono ?_
      rintro e w5 ⟨rfl, h6, hF6⟩
      have hA : w5.heap[w4.heap.size]? = some (.cells #[.int .i64 y0, .int .i64 y1, .int .i64 y2, .int .i64 y3] 59) := (hF6.block _ (by simp) fun e => e (Or.inr rfl)).trans (heap_alloc_new w4 _)
      have hlt : w4.heap.size < w5.heap.size := (Array.getElem?_eq_some_iff.1 hA).1
      have a0 : w5.cell? ⟨w4.heap.size, 0, none⟩ = some (.int .i64 y0) := (cell_of_row _ _ _ _ _ _ hA).trans rfl
      have a1 : w5.cell? ⟨w4.heap.size, 1, none⟩ = some (.int .i64 y1) := (cell_of_row _ _ _ _ _ _ hA).trans rfl
      have a2 : w5.cell? ⟨w4.heap.size, 2, none⟩ = some (.int .i64 y2) := (cell_of_row _ _ _ _ _ _ hA).trans rfl
      have a3 : w5.cell? ⟨w4.heap.size, 3, none⟩ = some (.int .i64 y3) := (cell_of_row _ _ _ _ _ _ hA).trans rfl
      have hF7 := HF4.out.then (hF6.mono (S' := fun k => ¬ (own k ∨ (wr.heap.size ≤ k ∧ k < w3.heap.size))) fun k e x => e (Or.inl x))
      have HL5 := hidK (ownsRow_same (w' := w5) HLr3.out fun g hg hl => hF7.block g hl fun e => e (Or.inr ⟨(HLr3.out.lt g hg).1, hl⟩))
      have HM5 := hidK (ownsRow_same (w' := w5) HMr3.out fun g hg hl => hF7.block g hl fun e => e (Or.inr ⟨by have := (HMr3.out.lt g hg).1; omega, hl⟩))
      have H6 := hidK (show Duo R w5 own cx cy d d from h6.sub fun k e => Or.inl (Or.inl e))
      have HF7 := hidK ((HF.out.then (Fr.below HB3.out)).then (hF7.mono fun k e x => e (Or.inl x)))
      clear h6 hF6 hF7 hA HC2 HLr3 HMr3 H3 HF4
      have hn50 : d.way.length ≤ 50 := hwl
      go_wp2_with fail
      go_loopw [18] (fun t wr => ∃ i : Nat, i ≤ d.way.length ∧ t = .int .i64 i ∧ Below w5.heap.size w5 wr) (fun t _ => d.way.length - (intOf t).toNat)
      case atStart => exact ⟨0, Nat.zero_le _, rfl, (Below.refl _ _).alloc (Nat.le_refl _) _⟩
      case round =>
        obtain ⟨i, hi, rfl, hBq⟩ := hrel
        have HBq := hidK hBq
        have hwr : w5.heap.size ≤ wr.heap.size := hBq.size
        clear hBq a0 a1 a2 a3
        by_cases hin : i < d.way.length
        · obtain ⟨lg, rfl⟩ := hlp (by omega)
          obtain ⟨mg, rfl⟩ := hmp (by omega)
          have hx : d.way[i]? = some d.way[i] := by simp [hin]
          obtain ⟨b0, b1, b2, b3, b4⟩ := see_at (ownsRow_same (w' := wr) HL5.out fun g _ hg => HBq.out.block g hg) i _ hx
          obtain ⟨c0, c1, c2, c3, c4⟩ := see_at (ownsRow_same (w' := wr) HM5.out fun g _ hg => HBq.out.block g hg) i _ hx
          generalize d.way[i] = x at *
          have hi0 : (0 : Int) ≤ (i : Int) := by omega
          have hi1 : (i : Int) < (d.way.length : Int) := by omega
          clear hx
          go_wp2_with fail
          go_quiet (fail)
          go_wp2_with fail
          go_roundw
          case rel => exact ⟨i + 1, by omega, by go_num, HBq.out.trans ⟨rfl, rfl, rfl, Nat.le_refl _, fun _ _ => rfl⟩⟩
          case measure => simp [intOf]; omega
        · have : i = d.way.length := by omega
          subst this
          go_wp2
          go_ret
          exact ⟨rfl, H6.out.quiet HS.out HBq.out, HF7.out.then (Fr.below HBq.out)⟩
end
end Go.Proofs.Ythpjcmilfipbaaa
